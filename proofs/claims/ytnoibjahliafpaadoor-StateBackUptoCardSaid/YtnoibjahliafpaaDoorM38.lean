/- Are two states the same, as the program has it. -/
import Derived.Test.YtnoibjahliafpaaDoorM37
import Derived.Test.YtnoibjahliafpaaDoorM01
import Derived.Test.YtnoibjahliafpaaDoorM34
import Derived.Test.YtnoibjahliafpaaDoorM29
set_option linter.unusedVariables false
set_option linter.unusedSimpArgs false
namespace Go.Proofs.YtnoibjahliafpaaDoor
open Go.ChangeShapes Go.WideShapes Go.ChangeAt Go.RowKit
noncomputable def allB {α:Type} (a b:List α):Bool:= @decide (a=b) (Classical.propDecidable _)
theorem allB_yes {α:Type} {a b:List α} (h:a=b):allB a b=true:=by unfold allB;simp [h]
theorem allB_no {α:Type} {a b:List α} (h:a≠b):allB a b=false:=by unfold allB;simp [h]
theorem proc_ext2 {a b:ProcessD} (h:procEqB a b=true):a=b:=by
 have:=of_decide_eq_true h;cases a;cases b;simp_all
theorem proc_next {a b:ProcessD} (h:procEqB a b=false):a≠b:=fun e=>by
 have:=of_decide_eq_false h;subst e;exact this ⟨rfl,rfl,rfl,rfl⟩
set_option maxRecDepth 100000 in
set_option maxHeartbeats 2000000 in
theorem eqC40 {B:Nat} (a b:List ChanD) (oa ob:Option Addr) (ca cb p:Nat) (w:World) (hB:B≤w.heap.size) (hp:FBx w p) (ha:Row B oa 2 (chanAt B w) a) (hb:Row B ob 2 (chanAt B w) b):
 Calls Tryd.prog 27 #[.slice oa a.length ca,.slice ob b.length cb,.func (.func 23) #[] #[.pointer (some ⟨p,0,none⟩)]] w fun e w'=>e= .returned (.bool (allB a b))∧Below w.heap.size w w':=by
 have HR:=Lib.hid (And.intro ha hb);have HBB:=Lib.hid hB;have HFB:=Lib.hid hp;have la:=ha.1;have lb:=hb.1;have HB0:Hid (Below w.heap.size w w):=Lib.hid (Below.refl _ _);clear ha hb hB hp;by_cases hl:a.length=b.length;rotate_left
 · have d: ((a.length:Int) != (b.length:Int))=true:=by rw [bne_iff_ne];omega
   have HZ:Hid (allB a b=false):=Lib.hid (allB_no fun e=>hl (by rw [e]));clear hl;go_enter Tryd.func27,Tryd.ntmps27;go_wp2_with fail;go_ret;exact ⟨retB HZ.out.symm,HB0.out⟩
 have d: ((a.length:Int) != (b.length:Int))=false:=by rw [bne_eq_false_iff_eq];omega
 have HL:=Lib.hid hl;have hl1:a.length≤b.length:=by omega
 clear hl;go_enter Tryd.func27,Tryd.ntmps27;go_wp2_with fail;clear d
 go_loopw [17] (fun iv W=>∃i:Nat,iv= .int .i64 i∧i≤a.length∧Hid (∀j (hj:j < a.length) (hj2:j < b.length),j < i→a[j]=b[j])∧Hid (Below w.heap.size w W)) (fun iv _=>a.length - (intOf iv).toNat)
 case atStart=>exact ⟨0,rfl,by omega,Lib.hid fun j _ _ h=>by omega,HB0⟩
 case round=>
  clear HB0;obtain ⟨i,rfl,hi,HJ,HBW⟩:=hrel;have hi0: (0:Int)≤i:=by omega
  by_cases hlt:i < a.length
  · have hlti: (i:Int) < a.length:=by omega
    have hlt2:i < b.length:=by omega
    have hlti2: (i:Int) < b.length:=by omega
    obtain ⟨g1,off1,ho1,hg1,xa⟩:=(HR.out.1.mono fun _ _ _ hg=>chanAt.below (HBW.out.mono HBB.out) hg).cell hlt;obtain ⟨g2,off2,ho2,hg2,xb⟩:=(HR.out.2.mono fun _ _ _ hg=>chanAt.below (HBW.out.mono HBB.out) hg).cell hlt2;subst ho1 ho2;obtain ⟨x,hx⟩:∃q,a[i]=q:=⟨_,rfl⟩;obtain ⟨y,hy⟩:∃q,b[i]=q:=⟨_,rfl⟩;rw [hx] at xa;rw [hy] at xb;obtain ⟨oa2,ca2,ea1,hra⟩:=xa.queue;obtain ⟨ob2,cb2,eb1,hrb⟩:=xb.queue;have ea0:=xa.c0;have eb0:=xb.c0;have fb0:=Lib.cell?_alloc_some (Obj.cells #[.int .i64 x.shape,.slice oa2 x.queue.length ca2] 61) eb0;have fb1:=Lib.cell?_alloc_some (Obj.cells #[.int .i64 x.shape,.slice oa2 x.queue.length ca2] 61) eb1;have hbw:=Nat.le_trans HBB.out HBW.out.size;have HG:Hid (g1 < wr.heap.size∧g2 < wr.heap.size):=Lib.hid ⟨by omega,by omega⟩;obtain ⟨W0,hW0⟩:∃W,W= (wr.alloc (.cells #[.int .i64 x.shape,.slice oa2 x.queue.length ca2] 61)).alloc (.cells #[.int .i64 y.shape,.slice ob2 y.queue.length cb2] 61):=⟨_,rfl⟩;have HB1:Hid (Below wr.heap.size wr W0):=Lib.hid (by rw [hW0];exact ((Below.refl _ _).alloc (Nat.le_refl _) _).alloc (by simp) _);have HX:Hid (Bq wr wr.heap.size #[.int .i64 x.shape,.slice oa2 x.queue.length ca2] 61 W0∧Bq wr (wr.heap.size+1) #[.int .i64 y.shape,.slice ob2 y.queue.length cb2] 61 W0):=Lib.hid (by rw [hW0];exact ⟨(Bq.new (Below.refl _ _) _ _).below (ball _),new_at (by simp),(Bq.new (Below.refl _ _) _ _).bel.alloc (by simp) _⟩);have HC:=Lib.hid (cl36 (B:=B) x y oa2 ob2 ca2 cb2 p W0 (Nat.le_trans hbw HB1.out.size) ((HB1.out.block p (Nat.lt_of_lt_of_le (lt_of_block HFB.out) HBW.out.size)).trans ((HBW.out.block p (lt_of_block HFB.out)).trans HFB.out)) (hra.mono fun _ _ _ hg=>msgAt.below (HB1.out.mono hbw) hg) (hrb.mono fun _ _ _ hg=>msgAt.below (HB1.out.mono hbw) hg));have HS:Hid (x=y→∀j (hj:j < a.length) (hj2:j < b.length),j < i+1→a[j]=b[j]):=Lib.hid fun h j hj hj2 hji=>by
     by_cases e:j=i
     · subst e;rw [hx,hy,h]
     · exact HJ.out j hj hj2 (by omega)
    have HN:Hid (x≠y→allB a b=false):=Lib.hid fun h=>allB_no fun e=>h (by rw [←hx,←hy];simp only [e])
    obtain ⟨bb,hbb⟩:∃q,chanEqB x y=q:=⟨_,rfl⟩;have HBQ:=Lib.hid hbb;rw [hbb] at HC;clear hx hy hg1 hg2 hra hrb hbb xa xb hbw;go_upto_region 7 with fail
    rw [←hW0];clear hW0 ea0 ea1 eb0 eb1 fb0 fb1;have x0:W0.cell? ⟨wr.heap.size,0,none⟩=some (.int .i64 x.shape):=HX.out.1.cell rfl;have x1:W0.cell? ⟨wr.heap.size,1,none⟩=some (.slice oa2 x.queue.length ca2):=HX.out.1.cell rfl;have y0:W0.cell? ⟨wr.heap.size+1,0,none⟩=some (.int .i64 y.shape):=HX.out.2.cell rfl;have y1:W0.cell? ⟨wr.heap.size+1,1,none⟩=some (.slice ob2 y.queue.length cb2):=HX.out.2.cell rfl;go_wp2_with fail;refine HC.out.mono ?_;rintro e W1 ⟨rfl,hb1⟩;have HB2:Hid (Below w.heap.size w W1):=Lib.hid (HBW.out.trans ((HB1.out.trans (hb1.mono HB1.out.size)).mono HBW.out.size));clear hb1 x0 x1 y0 y1;cases bb
    · have HZ:=Lib.hid (HN.out (chan_next HBQ.out));go_wp2_with fail;go_ret;exact ⟨retB HZ.out.symm,HB2.out⟩
    · have HZ:=Lib.hid (HS.out (chan_ext HBQ.out));go_wp2_with fail;go_roundw;case rel=>exact ⟨i+1,by go_num,by omega,HZ,HB2⟩
      case measure=>simp [intOf];omega
  · have hlti:¬ (i:Int) < a.length:=by omega
    have HZ:Hid (allB a b=true):=Lib.hid (allB_yes (list_eq_of HL.out fun j hj hj2=>HJ.out j hj hj2 (by omega)));go_wp2_with fail;go_ret;exact ⟨retB HZ.out.symm,HBW.out⟩
set_option maxRecDepth 100000 in
set_option maxHeartbeats 2000000 in
theorem eqP41 {B:Nat} (a b:List ProcessD) (oa ob:Option Addr) (ca cb:Nat) (w:World) (hB:B≤w.heap.size) (ha:Row B oa 4 (processAt B w) a) (hb:Row B ob 4 (processAt B w) b):
 Calls Tryd.prog 28 #[.slice oa a.length ca,.slice ob b.length cb,.func (.func 25) #[] #[]] w fun e w'=>e= .returned (.bool (allB a b))∧Below w.heap.size w w':=by
 have HR:=Lib.hid (And.intro ha hb);have HBB:=Lib.hid hB;have la:=ha.1;have lb:=hb.1;have HB0:Hid (Below w.heap.size w w):=Lib.hid (Below.refl _ _);clear ha hb hB;by_cases hl:a.length=b.length;rotate_left
 · have d: ((a.length:Int) != (b.length:Int))=true:=by rw [bne_iff_ne];omega
   have HZ:Hid (allB a b=false):=Lib.hid (allB_no fun e=>hl (by rw [e]));clear hl;go_enter Tryd.func28,Tryd.ntmps28;go_wp2_with fail;go_ret;exact ⟨retB HZ.out.symm,HB0.out⟩
 have d: ((a.length:Int) != (b.length:Int))=false:=by rw [bne_eq_false_iff_eq];omega
 have HL:=Lib.hid hl;have hl1:a.length≤b.length:=by omega
 clear hl;go_enter Tryd.func28,Tryd.ntmps28;go_wp2_with fail;clear d
 go_loopw [17] (fun iv W=>∃i:Nat,iv= .int .i64 i∧i≤a.length∧Hid (∀j (hj:j < a.length) (hj2:j < b.length),j < i→a[j]=b[j])∧Hid (Below w.heap.size w W)) (fun iv _=>a.length - (intOf iv).toNat)
 case atStart=>exact ⟨0,rfl,by omega,Lib.hid fun j _ _ h=>by omega,HB0⟩
 case round=>
  clear HB0;obtain ⟨i,rfl,hi,HJ,HBW⟩:=hrel;have hi0: (0:Int)≤i:=by omega
  by_cases hlt:i < a.length
  · have hlti: (i:Int) < a.length:=by omega
    have hlt2:i < b.length:=by omega
    have hlti2: (i:Int) < b.length:=by omega
    obtain ⟨g1,off1,ho1,hg1,xa⟩:=(HR.out.1.mono fun _ _ _ hg=>processAt.below (HBW.out.mono HBB.out) hg).cell hlt;obtain ⟨g2,off2,ho2,hg2,xb⟩:=(HR.out.2.mono fun _ _ _ hg=>processAt.below (HBW.out.mono HBB.out) hg).cell hlt2;subst ho1 ho2;obtain ⟨x,hx⟩:∃q,a[i]=q:=⟨_,rfl⟩;obtain ⟨y,hy⟩:∃q,b[i]=q:=⟨_,rfl⟩;rw [hx] at xa;rw [hy] at xb;obtain ⟨oa2,ca2,ea3,hra⟩:=xa.frame;obtain ⟨ob2,cb2,eb3,hrb⟩:=xb.frame;have ea0:=xa.c0;have ea1:=xa.c1;have ea2:=xa.c2;have eb0:=xb.c0;have eb1:=xb.c1;have eb2:=xb.c2;have fb0:=Lib.cell?_alloc_some (Obj.cells #[.int .i64 x.type,.int .i64 x.loc,.int .i64 x.prio,.slice oa2 x.frame.length ca2] 63) eb0;have fb1:=Lib.cell?_alloc_some (Obj.cells #[.int .i64 x.type,.int .i64 x.loc,.int .i64 x.prio,.slice oa2 x.frame.length ca2] 63) eb1;have fb2:=Lib.cell?_alloc_some (Obj.cells #[.int .i64 x.type,.int .i64 x.loc,.int .i64 x.prio,.slice oa2 x.frame.length ca2] 63) eb2;have fb3:=Lib.cell?_alloc_some (Obj.cells #[.int .i64 x.type,.int .i64 x.loc,.int .i64 x.prio,.slice oa2 x.frame.length ca2] 63) eb3;have hbw:=Nat.le_trans HBB.out HBW.out.size;have HG:Hid (g1 < wr.heap.size∧g2 < wr.heap.size):=Lib.hid ⟨by omega,by omega⟩;obtain ⟨W0,hW0⟩:∃W,W= (wr.alloc (.cells #[.int .i64 x.type,.int .i64 x.loc,.int .i64 x.prio,.slice oa2 x.frame.length ca2] 63)).alloc (.cells #[.int .i64 y.type,.int .i64 y.loc,.int .i64 y.prio,.slice ob2 y.frame.length cb2] 63):=⟨_,rfl⟩;have HB1:Hid (Below wr.heap.size wr W0):=Lib.hid (by rw [hW0];exact ((Below.refl _ _).alloc (Nat.le_refl _) _).alloc (by simp) _);have HX:Hid (Bq wr wr.heap.size #[.int .i64 x.type,.int .i64 x.loc,.int .i64 x.prio,.slice oa2 x.frame.length ca2] 63 W0∧Bq wr (wr.heap.size+1) #[.int .i64 y.type,.int .i64 y.loc,.int .i64 y.prio,.slice ob2 y.frame.length cb2] 63 W0):=Lib.hid (by rw [hW0];exact ⟨(Bq.new (Below.refl _ _) _ _).below (ball _),new_at (by simp),(Bq.new (Below.refl _ _) _ _).bel.alloc (by simp) _⟩);have HC:=Lib.hid (cl38 (B:=B) x y oa2 ob2 ca2 cb2 W0 (Nat.le_trans hbw HB1.out.size) (hra.mono fun _ _ _ hg=>intAt.below (HB1.out.mono hbw) hg) (hrb.mono fun _ _ _ hg=>intAt.below (HB1.out.mono hbw) hg));have HS:Hid (x=y→∀j (hj:j < a.length) (hj2:j < b.length),j < i+1→a[j]=b[j]):=Lib.hid fun h j hj hj2 hji=>by
     by_cases e:j=i
     · subst e;rw [hx,hy,h]
     · exact HJ.out j hj hj2 (by omega)
    have HN:Hid (x≠y→allB a b=false):=Lib.hid fun h=>allB_no fun e=>h (by rw [←hx,←hy];simp only [e])
    obtain ⟨bb,hbb⟩:∃q,procEqB x y=q:=⟨_,rfl⟩;have HBQ:=Lib.hid hbb;rw [hbb] at HC;clear hx hy hg1 hg2 hra hrb hbb xa xb hbw;go_upto_region 7 with fail
    rw [←hW0];clear hW0 ea0 ea1 ea2 ea3 eb0 eb1 eb2 eb3 fb0 fb1 fb2 fb3;have x0:W0.cell? ⟨wr.heap.size,0,none⟩=some (.int .i64 x.type):=HX.out.1.cell rfl;have x1:W0.cell? ⟨wr.heap.size,1,none⟩=some (.int .i64 x.loc):=HX.out.1.cell rfl;have x2:W0.cell? ⟨wr.heap.size,2,none⟩=some (.int .i64 x.prio):=HX.out.1.cell rfl;have x3:W0.cell? ⟨wr.heap.size,3,none⟩=some (.slice oa2 x.frame.length ca2):=HX.out.1.cell rfl;have y0:W0.cell? ⟨wr.heap.size+1,0,none⟩=some (.int .i64 y.type):=HX.out.2.cell rfl;have y1:W0.cell? ⟨wr.heap.size+1,1,none⟩=some (.int .i64 y.loc):=HX.out.2.cell rfl;have y2:W0.cell? ⟨wr.heap.size+1,2,none⟩=some (.int .i64 y.prio):=HX.out.2.cell rfl;have y3:W0.cell? ⟨wr.heap.size+1,3,none⟩=some (.slice ob2 y.frame.length cb2):=HX.out.2.cell rfl;go_wp2_with fail;refine HC.out.mono ?_;rintro e W1 ⟨rfl,hb1⟩;have HB2:Hid (Below w.heap.size w W1):=Lib.hid (HBW.out.trans ((HB1.out.trans (hb1.mono HB1.out.size)).mono HBW.out.size));clear hb1 x0 x1 x2 x3 y0 y1 y2 y3;cases bb
    · have HZ:=Lib.hid (HN.out (proc_next HBQ.out));go_wp2_with fail;go_ret;exact ⟨retB HZ.out.symm,HB2.out⟩
    · have HZ:=Lib.hid (HS.out (proc_ext2 HBQ.out));go_wp2_with fail;go_roundw;case rel=>exact ⟨i+1,by go_num,by omega,HZ,HB2⟩
      case measure=>simp [intOf];omega
  · have hlti:¬ (i:Int) < a.length:=by omega
    have HZ:Hid (allB a b=true):=Lib.hid (allB_yes (list_eq_of HL.out fun j hj hj2=>HJ.out j hj hj2 (by omega)));go_wp2_with fail;go_ret;exact ⟨retB HZ.out.symm,HBW.out⟩
set_option maxRecDepth 100000 in
set_option maxHeartbeats 2000000 in
theorem sameC {B:Nat} (s t:StateD) (hs ht:SH) (w:World) (hB:B≤w.heap.size) (h1:SD B w hs s) (h2:SD B w ht t):
 Calls Tryd.prog 10 #[sV hs s,sV ht t] w fun e w'=>e= .returned (.bool (sameB s t))∧Below w.heap.size w w':=by
 obtain ⟨W0,hW0⟩:∃W,W= ((w.alloc (.cells (sCells hs s) 33)).alloc (.cells (sCells ht t) 33)).alloc (.cells #[fn34] 76):=⟨_,rfl⟩;have HX:Hid (Z2 w B hs ht s t W0):=Lib.hid (by rw [hW0];exact (Z2.new hB h1 h2).below (ball _));have HF:Hid (FBx W0 (w.heap.size+2)):=Lib.hid (by rw [hW0];exact new_at (by simp));have lg1:=h1.globals.1;have lg2:=h2.globals.1;have lc1:=h1.chans.1;have lc2:=h2.chans.1;have lp1:=h1.procs.1;have lp2:=h2.procs.1;clear h1 h2 hB;unfold sCells fn34 at hW0;unfold sV sCells;go_enter Tryd.func10,Tryd.ntmps10;go_upto_region 4 with fail
 rw [←hW0];clear hW0;have HCE:Hid (∀W,Below W0.heap.size W0 W→W.cell? ⟨w.heap.size,0,none⟩=some (.slice hs.go s.globals.length hs.gc)∧W.cell? ⟨w.heap.size+1,0,none⟩=some (.slice ht.go t.globals.length ht.gc)∧W.cell? ⟨w.heap.size,1,none⟩=some (.slice hs.co s.chans.length hs.cc)∧W.cell? ⟨w.heap.size+1,1,none⟩=some (.slice ht.co t.chans.length ht.cc)∧W.cell? ⟨w.heap.size,2,none⟩=some (.slice hs.po s.procs.length hs.pc)∧W.cell? ⟨w.heap.size+1,2,none⟩=some (.slice ht.po t.procs.length ht.pc)):=Lib.hid fun W hb=>⟨(HX.out.below hb).a.cell rfl,(HX.out.below hb).b.cell rfl,(HX.out.below hb).a.cell rfl,(HX.out.below hb).b.cell rfl,(HX.out.below hb).a.cell rfl,(HX.out.below hb).b.cell rfl⟩
 have HCN:Hid (∀W,Below W0.heap.size W0 W→W.cell? ⟨w.heap.size,3,none⟩=some (.int .i64 s.last)∧W.cell? ⟨w.heap.size+1,3,none⟩=some (.int .i64 t.last)∧W.cell? ⟨w.heap.size,4,none⟩=some (.int .i64 s.alone)∧W.cell? ⟨w.heap.size+1,4,none⟩=some (.int .i64 t.alone)∧W.cell? ⟨w.heap.size,5,none⟩=some (.int .i64 s.claim)∧W.cell? ⟨w.heap.size+1,5,none⟩=some (.int .i64 t.claim)):=Lib.hid fun W hb=>⟨(HX.out.below hb).a.cell rfl,(HX.out.below hb).b.cell rfl,(HX.out.below hb).a.cell rfl,(HX.out.below hb).b.cell rfl,(HX.out.below hb).a.cell rfl,(HX.out.below hb).b.cell rfl⟩
 obtain ⟨x0,y0,-,-,-,-⟩:=HCE.out W0 (Below.refl _ _);have HG:=Lib.hid (eqN39 (B:=B) s.globals t.globals hs.go ht.go hs.gc ht.gc W0 HX.out.leW HX.out.sd.globals HX.out.td.globals);have HC:Hid (∀W,Below W0.heap.size W0 W→Calls Tryd.prog 27 #[.slice hs.co s.chans.length hs.cc,.slice ht.co t.chans.length ht.cc,.func (.func 23) #[] #[.pointer (some ⟨w.heap.size+2,0,none⟩)]] W fun e w'=>e= .returned (.bool (allB s.chans t.chans))∧Below W.heap.size W w'):=Lib.hid fun W hb=>
  eqC40 (B:=B) s.chans t.chans hs.co ht.co hs.cc ht.cc _ W (HX.out.below hb).leW ((hb.block _ (lt_of_block HF.out)).trans HF.out) (HX.out.below hb).sd.chans (HX.out.below hb).td.chans
 have HP:Hid (∀W,Below W0.heap.size W0 W→Calls Tryd.prog 28 #[.slice hs.po s.procs.length hs.pc,.slice ht.po t.procs.length ht.pc,.func (.func 25) #[] #[]] W fun e w'=>e= .returned (.bool (allB s.procs t.procs))∧Below W.heap.size W w'):=Lib.hid fun W hb=>
  eqP41 (B:=B) s.procs t.procs hs.po ht.po hs.pc ht.pc W (HX.out.below hb).leW (HX.out.below hb).sd.procs (HX.out.below hb).td.procs
 have HBW:Hid (∀W,Below W0.heap.size W0 W→Below w.heap.size w W):=Lib.hid fun W hb=>(HX.out.below hb).a.bel
 clear HX;obtain ⟨bg,hbg⟩:∃q,decide (s.globals=t.globals)=q:=⟨_,rfl⟩;rw [hbg] at HG;have HBG:=Lib.hid hbg;clear hbg;go_wp2_with fail;refine HG.out.mono ?_;rintro e W1 ⟨rfl,hb1⟩;have HB1:=Lib.hid hb1;clear hb1 x0 y0 HG;cases bg
 · have HZ:Hid (sameB s t=false):=Lib.hid (sameB_no fun e=>of_decide_eq_false HBG.out (by rw [e]));go_wp2_with fail;go_ret;exact ⟨retB HZ.out.symm,HBW.out _ HB1.out⟩
 obtain ⟨-,-,x1,y1,-,-⟩:=HCE.out W1 HB1.out;have HC1:=Lib.hid (HC.out W1 HB1.out);obtain ⟨bc,hbc⟩:∃q,allB s.chans t.chans=q:=⟨_,rfl⟩;rw [hbc] at HC1;have HBC:=Lib.hid hbc;clear hbc;go_wp2_with fail;refine HC1.out.mono ?_;rintro e W2 ⟨rfl,hb2⟩;have HB2:=Lib.hid (HB1.out.trans (hb2.mono HB1.out.size));clear hb2 x1 y1 HC1 HC;cases bc
 · have HZ:Hid (sameB s t=false):=Lib.hid (sameB_no fun e=>by have:=HBC.out;rw [allB_yes (by rw [e])] at this;cases this);go_wp2_with fail;go_ret;exact ⟨retB HZ.out.symm,HBW.out _ HB2.out⟩
 obtain ⟨-,-,-,-,x2,y2⟩:=HCE.out W2 HB2.out;have HP1:=Lib.hid (HP.out W2 HB2.out);obtain ⟨bp,hbp⟩:∃q,allB s.procs t.procs=q:=⟨_,rfl⟩;rw [hbp] at HP1;have HBP:=Lib.hid hbp;clear hbp;go_wp2_with fail;refine HP1.out.mono ?_;rintro e W3 ⟨rfl,hb3⟩;have HB3:=Lib.hid (HB2.out.trans (hb3.mono HB2.out.size));clear hb3 x2 y2 HP1 HP;cases bp
 · have HZ:Hid (sameB s t=false):=Lib.hid (sameB_no fun e=>by have:=HBP.out;rw [allB_yes (by rw [e])] at this;cases this);go_wp2_with fail;go_ret;exact ⟨retB HZ.out.symm,HBW.out _ HB3.out⟩
 obtain ⟨x3,y3,x4,y4,x5,y5⟩:=HCN.out W3 HB3.out;by_cases k3:s.last=t.last;rotate_left
 · have d: (s.last == t.last)=false:=by rw [beq_eq_false_iff_ne];exact k3
   have HZ:Hid (sameB s t=false):=Lib.hid (sameB_no fun e=>k3 (by rw [e]));clear k3;go_wp2_with fail;go_ret;exact ⟨retB HZ.out.symm,HBW.out _ HB3.out⟩
 have d3: (s.last == t.last)=true:=by rw [beq_iff_eq];exact k3
 have H3:=Lib.hid k3;clear k3;by_cases k4:s.alone=t.alone;rotate_left
 · have d: (s.alone == t.alone)=false:=by rw [beq_eq_false_iff_ne];exact k4
   have HZ:Hid (sameB s t=false):=Lib.hid (sameB_no fun e=>k4 (by rw [e]));clear k4;go_wp2_with fail;go_ret;exact ⟨retB HZ.out.symm,HBW.out _ HB3.out⟩
 have d4: (s.alone == t.alone)=true:=by rw [beq_iff_eq];exact k4
 have H4:=Lib.hid k4;clear k4;by_cases k5:s.claim=t.claim;rotate_left
 · have d: (s.claim == t.claim)=false:=by rw [beq_eq_false_iff_ne];exact k5
   have HZ:Hid (sameB s t=false):=Lib.hid (sameB_no fun e=>k5 (by rw [e]));clear k5;go_wp2_with fail;go_ret;exact ⟨retB HZ.out.symm,HBW.out _ HB3.out⟩
 have d5: (s.claim == t.claim)=true:=by rw [beq_iff_eq];exact k5
 have HZ:Hid (sameB s t=true):=Lib.hid (sameB_yes (state_ext (of_decide_eq_true HBG.out) (@of_decide_eq_true _ (Classical.propDecidable _) HBC.out) (@of_decide_eq_true _ (Classical.propDecidable _) HBP.out) H3.out H4.out k5));clear k5;go_wp2_with fail;go_ret;exact ⟨retB HZ.out.symm,HBW.out _ HB3.out⟩
end Go.Proofs.YtnoibjahliafpaaDoor
namespace Go.Proofs.YtnoibjahliafpaaDoor
open Go.ChangeShapes Go.WideShapes Go.ChangeAt Go.RowKit
def allocs:World→List Obj→World
 | w,[]=>w
 | w,o :: r=>allocs (w.alloc o) r
theorem allocs_below:∀ (l:List Obj) (w:World) (B:Nat),B≤w.heap.size→Below B w (allocs w l)
 | [],w,B,h=>Below.refl _ _
 | o :: r,w,B,h=>((Below.refl B w).alloc h o).trans (allocs_below r (w.alloc o) B (by simp;omega))
theorem allocs_size:∀ (l:List Obj) (w:World),(allocs w l).heap.size=w.heap.size+l.length
 | [],w=>by simp [allocs]
 | o :: r,w=>by rw [allocs,allocs_size r (w.alloc o)];simp;omega
theorem allocs_at:∀ {l:List Obj} {w:World} {k:Nat} {o:Obj},l[k]? =some o→ (allocs w l).heap[w.heap.size+k]? =some o
 | [],w,k,o,h=>by simp at h
 | x :: r,w,0,o,h=>by
   simp only [List.getElem?_cons_zero,Option.some.injEq] at h;subst h;refine ((allocs_below r (w.alloc x) (w.alloc x).heap.size (Nat.le_refl _)).block _ (by simp)).trans ?_;exact heap_alloc_new w x
 | x :: r,w,k+1,o,h=>by
   simp only [List.getElem?_cons_succ] at h;have h2:=allocs_at (w:=w.alloc x) h;rw [World.size_alloc] at h2;rw [show w.heap.size+ (k+1)=w.heap.size+1+k from by omega];exact h2
theorem allocs_lt {l:List Obj} {w:World} {k:Nat} {o:Obj} (h:l[k]? =some o):w.heap.size+k < (allocs w l).heap.size:=by
 rw [allocs_size];have:=(List.getElem?_eq_some_iff.1 h).1;omega
theorem row_one1 {α:Type} {B:Nat} {g:Nat} {k:Nat} {R:Nat→Nat→α→Prop} {x:α} (hg:g < B) (h:R g 0 x):Row B (some ⟨g,0,none⟩) k R [x]:=
 ⟨by simp,.inr ⟨g,0,rfl,hg,fun i hi=>by
   obtain rfl:i=0:=by simp at hi;omega
   simpa using h⟩⟩
end Go.Proofs.YtnoibjahliafpaaDoor
namespace Go.Proofs.YtnoibjahliafpaaDoor
open Go.ChangeShapes Go.WideShapes Go.ChangeAt Go.RowKit
def twoD:ModelD:=⟨[(8,false)],[3],[],[],[⟨ByteArray.empty,0,[],[],[⟨[],[],false,false,false,false,false⟩],0,0,2,1,-1⟩],-1,[]⟩
def twoS:StateD:=⟨[3],[],[⟨0,0,1,[]⟩,⟨0,0,1,[]⟩],0,-1,-1⟩
def twoT:List UInt8:=[51,44,48,44,50,44,48,44,48,44,48,44,48,44,48,44,45,49,44,45,49,44]
theorem two_good:goodB twoD=true:=by decide+kernel
theorem two_may:mayB twoD twoS=true:=by decide+kernel
theorem two_first:firstD twoD=twoS:=rfl
theorem two_E:stateE twoD twoS=0:=by decide+kernel
theorem two_text:textS twoS=twoT:=by decide+kernel
theorem two_T:encT twoD twoS=twoT:=(if_pos two_E).trans two_text
theorem two_P:decP twoD twoT=some twoS:=(decP_iff two_good _ _).2 ⟨two_may,two_text⟩
theorem two_dS:decS twoD twoT=twoS:=by unfold decS;rw [two_good,if_pos rfl,two_P]
theorem two_dE:decE twoD twoT=0:=by unfold decE;rw [two_good,if_pos rfl,two_P]
theorem none_E {b:List UInt8} (h: (decP twoD b).isNone=true):decE twoD b=41:=by unfold decE;rw [two_good,if_pos rfl,Option.isNone_iff_eq_none.1 h]
theorem two_h:decE twoD (48 :: twoT)=41:=none_E (by decide+kernel)
theorem two_i:decE twoD (twoT.take 21)=41:=none_E (by decide+kernel)
def tw0 (b:Nat):Array Value:=#[.slice (some ⟨b+1,0,none⟩) 1 1,.slice (some ⟨b+1+1,0,none⟩) 1 1,.slice none 0 0,.slice none 0 0,.slice (some ⟨b+1+1+1+1,0,none⟩) 1 1,.int .i64 (-1),.slice none 0 0]
def tw3:Array Value:=#[.slice none 0 0,.slice none 0 0,.bool false,.bool false,.bool false,.bool false,.bool false]
def tw4 (b:Nat):Array Value:=#[.string ⟨#[]⟩,.int .i64 0,.slice none 0 0,.slice none 0 0,.slice (some ⟨b+1+1+1,0,none⟩) 1 1,.int .i64 0,.int .i64 0,.int .i64 2,.int .i64 1,.int .i64 (-1)]
def twL (b:Nat):List Obj:=[.cells (tw0 b) 29,.cells #[.int .i64 8,.bool false] 70,.cells #[.int .i64 3] 2,.cells tw3 74,.cells (tw4 b) 67]
def twH (b:Nat):MH:=⟨some ⟨b+1,0,none⟩,1,some ⟨b+1+1,0,none⟩,1,none,0,none,0,some ⟨b+1+1+1+1,0,none⟩,1,none,0⟩
set_option maxRecDepth 100000 in
theorem tw_md (w:World):MD (allocs w (twL w.heap.size)).heap.size (allocs w (twL w.heap.size)) (twH w.heap.size) twoD:=by
 have h1: (allocs w (twL w.heap.size)).heap[w.heap.size+1]? =some (.cells #[.int .i64 8,.bool false] 70 (0,0)):=allocs_at (k:=1) rfl;have h2: (allocs w (twL w.heap.size)).heap[w.heap.size+1+1]? =some (.cells #[.int .i64 3] 2 (0,0)):=allocs_at (k:=2) rfl;have h3: (allocs w (twL w.heap.size)).heap[w.heap.size+1+1+1]? =some (.cells tw3 74 (0,0)):=allocs_at (k:=3) rfl;have h4: (allocs w (twL w.heap.size)).heap[w.heap.size+1+1+1+1]? =some (.cells (tw4 w.heap.size) 67 (0,0)):=allocs_at (k:=4) rfl;generalize allocs w (twL w.heap.size)=W at*;have nilS:∀ {α:Type} (g a k:Nat) (R:Nat→Nat→α→Prop),W.cell? ⟨g,a,none⟩=some (.slice none 0 0)→Sli W.heap.size W g a k R []:=fun g a k R hc=>⟨none,0,hc,Row.nil _ _ _ _⟩
 have c1:∀ (j:Nat) (v:Value),(#[.int .i64 8,.bool false]:Array Value)[j]? =some v→W.cell? ⟨w.heap.size+1,j,none⟩=some v:=fun j v hv=>(cell_of_row _ _ j _ _ _ h1).trans hv
 have c2:∀ (j:Nat) (v:Value),(#[.int .i64 3]:Array Value)[j]? =some v→W.cell? ⟨w.heap.size+1+1,j,none⟩=some v:=fun j v hv=>(cell_of_row _ _ j _ _ _ h2).trans hv
 have c3:∀ (j:Nat) (v:Value),tw3[j]? =some v→W.cell? ⟨w.heap.size+1+1+1,j,none⟩=some v:=fun j v hv=>(cell_of_row _ _ j _ _ _ h3).trans hv
 have c4:∀ (j:Nat) (v:Value),(tw4 w.heap.size)[j]? =some v→W.cell? ⟨w.heap.size+1+1+1+1,j,none⟩=some v:=fun j v hv=>(cell_of_row _ _ j _ _ _ h4).trans hv
 have L:locAt W.heap.size W (w.heap.size+1+1+1) 0 ⟨[],[],false,false,false,false,false⟩:=⟨nilS _ _ _ _ (c3 _ _ rfl),nilS _ _ _ _ (c3 1 _ rfl),c3 _ _ rfl,c3 _ _ rfl,c3 _ _ rfl,c3 _ _ rfl,c3 _ _ rfl⟩;have P:procAt W.heap.size W (w.heap.size+1+1+1+1) 0 ⟨ByteArray.empty,0,[],[],[⟨[],[],false,false,false,false,false⟩],0,0,2,1,-1⟩:=⟨c4 _ _ rfl,c4 _ _ rfl,nilS _ _ _ _ (c4 2 _ rfl),nilS _ _ _ _ (c4 3 _ rfl),⟨_,_,c4 4 _ rfl,row_one1 (lt_of_block h3) L⟩,c4 _ _ rfl,c4 _ _ rfl,c4 _ _ rfl,c4 _ _ rfl,c4 _ _ rfl⟩;exact ⟨row_one1 (lt_of_block h1) ⟨c1 _ _ rfl,c1 _ _ rfl⟩,row_one1 (lt_of_block h2) (c2 _ _ rfl),Row.nil _ _ _ _,Row.nil _ _ _ _,row_one1 (lt_of_block h4) P,Row.nil _ _ _ _⟩
set_option maxRecDepth 100000 in
set_option maxHeartbeats 4000000 in
theorem twoC (w:World):Calls Tryd.prog 9 #[] w fun e w'=>∃h,e= .returned (mV h twoD)∧MD w'.heap.size w' h twoD∧Below w.heap.size w w':=by
 have HMD:=Lib.hid (tw_md w);have HB:Hid (Below w.heap.size w (allocs w (twL w.heap.size))):=Lib.hid (allocs_below _ _ _ (Nat.le_refl _));have HC:Hid ((allocs w (twL w.heap.size)).heap[w.heap.size]? =some (.cells (tw0 w.heap.size) 29 (0,0))):=Lib.hid (allocs_at (k:=0) rfl);go_enter Tryd.func9,Tryd.ntmps9;go_wp2_with fail;change bodyPost _ _ _ _ _ (allocs w (twL w.heap.size));generalize allocs w (twL w.heap.size)=W at HMD HB HC ⊢;have q0:=(cell_of_row _ _ 0 _ _ _ HC.out).trans (rfl: (tw0 w.heap.size)[0]? =_);have q1:=(cell_of_row _ _ 1 _ _ _ HC.out).trans (rfl: (tw0 w.heap.size)[1]? =_);have q2:=(cell_of_row _ _ 2 _ _ _ HC.out).trans (rfl: (tw0 w.heap.size)[2]? =_);have q3:=(cell_of_row _ _ 3 _ _ _ HC.out).trans (rfl: (tw0 w.heap.size)[3]? =_);have q4:=(cell_of_row _ _ 4 _ _ _ HC.out).trans (rfl: (tw0 w.heap.size)[4]? =_);have q5:=(cell_of_row _ _ 5 _ _ _ HC.out).trans (rfl: (tw0 w.heap.size)[5]? =_);have q6:=(cell_of_row _ _ 6 _ _ _ HC.out).trans (rfl: (tw0 w.heap.size)[6]? =_);refine bodyPost_ret (v:= .agg (tw0 w.heap.size)) (by simp [results,Tryd.results9,go_sem,q0,q1,q2,q3,q4,q5,q6,tw0]) rfl ?_;exact ⟨twH w.heap.size,rfl,HMD.out,HB.out⟩
end Go.Proofs.YtnoibjahliafpaaDoor
