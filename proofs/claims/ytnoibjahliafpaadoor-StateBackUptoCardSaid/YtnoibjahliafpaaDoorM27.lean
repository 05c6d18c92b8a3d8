/- The program's reader of a state: a process, walked. -/
import Derived.Test.YtnoibjahliafpaaDoorM26
import Derived.Deep.RegionHeld3
set_option linter.unusedVariables false
set_option linter.unusedSimpArgs false
namespace Go.Proofs.YtnoibjahliafpaaDoor
open Go.ChangeShapes Go.WideShapes Go.ChangeAt Go.RowKit
theorem be_lt {most:Int} (hm:0 < most) (r:RdS):0≤ (beF most r).1∧ (beF most r).1 < most:=by
 unfold beF;split
 · exact ⟨by simp,by simpa using hm⟩
 · omega
def PrP (rb mb lb:Nat) (x:ProcessD × RdS) (W:World) (e:Ending) (W':World):Prop:=
 ∃fo fc,e= .returned (.agg #[.int .i64 x.1.type,.int .i64 x.1.loc,.int .i64 x.1.prio,.slice fo x.1.frame.length fc])∧W'.ownsRow W.heap.size 2 1 (.slice fo x.1.frame.length fc) x.1.frame.length (intsV x.1.frame)∧RX rb mb lb x.2 W'∧W.grownBy W' (some rb)
theorem gb_mono {b:Nat} {W W1 W2:World} (h1:W.grownBy W1 (some b)) {c:Nat} (h2:W1.grownBy W2 (some c)) (hc:W.heap.size≤c):W.grownBy W2 (some b):=
 ⟨h2.os.trans h1.os,h2.tape.trans h1.tape,h2.output.trans h1.output,Nat.le_trans h1.size h2.size,fun p hp hne=>(h2.block p (Nat.lt_of_lt_of_le hp h1.size) (by simp;omega)).trans (h1.block p hp hne)⟩
structure PL (W0:World) (rb mb lb pb ob:Nat) (h:MH) (m:ModelD) (pv:Array Value) (r:RdS) (W:World):Prop where
 p:W.heap[pb]? =some (.cells pv 63 (0,0))
 o:W.heap[ob]? =some (.cells #[.int .i64 0,.int .i64 0,.int .i64 0,.slice none 0 0] 63 (0,0))
 x:RX rb mb lb r W
 m:RM rb mb lb h m W
 g:W0.grownBy W (some rb)
 rl:rb < W0.heap.size
 pl:W0.heap.size≤pb
 ol:W0.heap.size≤ob
 ne:ob≠pb
section
variable {W0 W W1:World} {rb mb lb pb ob:Nat} {h:MH} {m:ModelD} {pv:Array Value} {r r1:RdS}
theorem PL.below (k:PL W0 rb mb lb pb ob h m pv r W) (hb:Below W.heap.size W W1):PL W0 rb mb lb pb ob h m pv r W1:=
 ⟨(hb.block _ (lt_of_block k.p)).trans k.p,(hb.block _ (lt_of_block k.o)).trans k.o,k.x.below hb,k.m.below k.x.lt hb,gb_trans k.g (gb_below hb),k.rl,k.pl,k.ol,k.ne⟩
theorem PL.read (k:PL W0 rb mb lb pb ob h m pv r W) (hx:RX rb mb lb r1 W1) (hg:W.grownBy W1 (some rb)):PL W0 rb mb lb pb ob h m pv r1 W1:=
 have h1:=k.rl;have h2:=k.pl;have h3:=k.ol
 ⟨gb_heap hg k.p (by omega),gb_heap hg k.o (by omega),hx,k.m.gb k.x.lt hg,gb_trans k.g hg,k.rl,k.pl,k.ol,k.ne⟩
theorem PL.pset (k:PL W0 rb mb lb pb ob h m pv r W) (i:Nat) (v:Value):PL W0 rb mb lb pb ob h m (pv.setIfInBounds i v) r (W.setCell ⟨pb,i,none⟩ v):=
 have h1:=k.rl;have h2:=k.pl;have hg:=gb_set W pb i v
 ⟨heap_setCell_same _ _ _ _ _ _ k.p,gb_heap hg k.o k.ne,k.x.other hg (by omega),k.m.other (by omega) (fun e=>by
   have:=k.m.box;rw [e,k.p] at this;simp at this) (lt_of_block k.p) hg,gb_mono k.g hg k.pl,k.rl,k.pl,k.ol,k.ne⟩
theorem PL.cell (k:PL W0 rb mb lb pb ob h m pv r W) {i:Nat} {v:Value} (hv:pv[i]? =some v):W.cell? ⟨pb,i,none⟩=some v:=(cell_of_row _ _ _ _ _ _ k.p).trans hv
end
theorem cell_set_ne {W:World} {a b i j:Nat} {u v:Value} (h:W.cell? ⟨a,i,none⟩=some v) (hne:a≠b): (W.setCell ⟨b,j,none⟩ u).cell? ⟨a,i,none⟩=some v:=
 (World.cell?_of_block (heap_setCell_other _ _ _ _ (by show a≠b;exact hne))).trans h
set_option maxRecDepth 100000 in
set_option maxHeartbeats 4000000 in
theorem processC {rb mb lb:Nat} {h:MH} {m:ModelD} {r:RdS} (W:World) (hx:RX rb mb lb r W) (hm:RM rb mb lb h m W) (hp0:0 < m.procs.length) (hf:∀p ∈ m.procs,p.frame.length≤128):
 Calls Tryd.prog 37 #[.pointer (some ⟨rb,0,none⟩)] W (PrP rb mb lb (prF m r) W):=by
 have HX:=Lib.hid hx;have HM:=Lib.hid hm;have HF:=Lib.hid hf;have hsl:=hm.md.procs.1;have HP0:=Lib.hid hp0;clear hx hm hf hp0;have HX1:=Lib.hid (HX.out.below (ball (.cells #[.int .i64 0,.int .i64 0,.int .i64 0,.slice none 0 0] 63)));have HM1:=Lib.hid (HM.out.below HX.out.lt (ball (.cells #[.int .i64 0,.int .i64 0,.int .i64 0,.slice none 0 0] 63)));have HO1:Hid ((W.alloc (.cells #[.int .i64 0,.int .i64 0,.int .i64 0,.slice none 0 0] 63)).heap[W.heap.size]? =some (.cells #[.int .i64 0,.int .i64 0,.int .i64 0,.slice none 0 0] 63 (0,0))):=Lib.hid (heap_alloc_new _ _);have HG1:Hid (W.grownBy (W.alloc (.cells #[.int .i64 0,.int .i64 0,.int .i64 0,.slice none 0 0] 63)) (some rb)):=Lib.hid (gb_below (ball _));go_enter Tryd.func37,Tryd.ntmps37;go_upto_region 1 with fail
 generalize W.alloc (.cells #[.int .i64 0,.int .i64 0,.int .i64 0,.slice none 0 0] 63)=W1 at HX1 HM1 HO1 HG1 ⊢;have c0:=HX1.out.c0;have m4:W1.cell? ⟨mb,4,none⟩=some (.slice h.po m.procs.length h.pc):=HM1.out.cell rfl;have HBL:=Lib.hid (belowC (m.procs.length:Int) HX1.out);have HR1:=Lib.hid (be_lt (most:=(m.procs.length:Int)) (by have:=HP0.out;omega) r);obtain ⟨tv,htv⟩:∃v,(beF (m.procs.length:Int) r).1=v:=⟨_,rfl⟩;obtain ⟨r1,hr1⟩:∃v,(beF (m.procs.length:Int) r).2=v:=⟨_,rfl⟩;have HE1:Hid (beF (m.procs.length:Int) r= (tv,r1)):=Lib.hid (by rw [←htv,←hr1]);rw [htv] at HR1;rw [htv,hr1] at HBL;obtain ⟨k,rfl⟩:∃k:Nat,tv=k:=⟨tv.toNat,by have:=HR1.out;omega⟩;have hkl:k < m.procs.length:=by have:=HR1.out;omega
 have hkli: (k:Int) < m.procs.length:=by omega
 have hk0: (0:Int)≤k:=by omega
 clear htv hr1;go_wp2_with fail;refine HBL.out.mono ?_;rintro e W2 ⟨rfl,hx2,hg2⟩;have HX2:=Lib.hid hx2;have HG2:=Lib.hid hg2;clear hx2 hg2 HBL c0 m4;have HL0:Hid (PL W rb mb lb W2.heap.size W.heap.size h m #[.int .i64 (k:Int),.int .i64 0,.int .i64 0,.slice none 0 0] r1 (W2.alloc (.cells #[.int .i64 (k:Int),.int .i64 0,.int .i64 0,.slice none 0 0] 63))):=Lib.hid (by
  have hb:Below W2.heap.size W2 (W2.alloc (.cells #[.int .i64 (k:Int),.int .i64 0,.int .i64 0,.slice none 0 0] 63)):=ball _;have hrl:=HX.out.lt;have ho2:=gb_heap HG2.out HO1.out (by omega);have hg:=gb_trans HG1.out HG2.out;exact ⟨heap_alloc_new _ _,(hb.block _ (lt_of_block ho2)).trans ho2,HX2.out.below hb,(HM1.out.gb HX1.out.lt HG2.out).below HX2.out.lt hb,gb_trans hg (gb_below hb),hrl,hg.size,Nat.le_refl _,by have:=lt_of_block ho2;omega⟩)
 obtain ⟨pb,hpb⟩:∃b,W2.heap.size=b:=⟨_,rfl⟩;obtain ⟨ob,hob⟩:∃b,W.heap.size=b:=⟨_,rfl⟩;rw [hpb] at HL0;have HOB:=Lib.hid hob;go_upto_region 2 with fail
 try rw [hpb]
 try rw [hob]
 rw [hob] at HL0;clear hpb hob HX1 HM1 HO1 HG1 HX2 HG2;generalize W2.alloc (.cells #[.int .i64 (k:Int),.int .i64 0,.int .i64 0,.slice none 0 0] 63)=W3 at HL0 ⊢;obtain ⟨p,hp⟩:∃p,m.procs[k]? =some p:=⟨_,List.getElem?_eq_getElem hkl⟩;have HP:=Lib.hid hp;obtain ⟨gp,op,ho,hgp,hpa⟩:=HL0.out.m.md.procs.get hp;obtain ⟨fto,ftc,e2,hft⟩:=hpa.frame;obtain ⟨io,ic,e3,-⟩:=hpa.init;obtain ⟨lo,lc,e4,-⟩:=hpa.locs;have HGP:Hid (gp < W3.heap.size):=Lib.hid (by have:=HL0.out.x.le;have:=HL0.out.x.lt;omega);have HS:Hid (∀W',Below W3.heap.size W3 W'→Below W3.heap.size W3 W'∧W'.cell? ⟨rb,0,none⟩=some (.pointer (some ⟨mb,0,none⟩))∧W'.cell? ⟨mb,4,none⟩=some (.slice (some ⟨gp,op,none⟩) m.procs.length h.pc)∧W'.cell? ⟨pb,0,none⟩=some (.int .i64 (k:Int))∧
  W'.cell? ⟨gp,op+k*10,none⟩=some (.string p.name)∧W'.cell? ⟨gp,op+k*10+1,none⟩=some (.int .i64 p.params)∧W'.cell? ⟨gp,op+k*10+2,none⟩=some (.slice fto p.frame.length ftc)∧W'.cell? ⟨gp,op+k*10+3,none⟩=some (.slice io p.init.length ic)∧W'.cell? ⟨gp,op+k*10+4,none⟩=some (.slice lo p.locs.length lc)∧W'.cell? ⟨gp,op+k*10+5,none⟩=some (.int .i64 p.start)∧W'.cell? ⟨gp,op+k*10+6,none⟩=some (.int .i64 p.final)∧W'.cell? ⟨gp,op+k*10+7,none⟩=some (.int .i64 p.active)∧W'.cell? ⟨gp,op+k*10+8,none⟩=some (.int .i64 p.prio)∧W'.cell? ⟨gp,op+k*10+9,none⟩=some (.int .i64 p.provided)):=Lib.hid fun W' hb=>by
  have hL:=HL0.out.below hb;have m4:W'.cell? ⟨mb,4,none⟩=some (.slice h.po m.procs.length h.pc):=hL.m.cell rfl;rw [ho] at m4;exact ⟨hb,hL.x.c0,m4,hL.cell rfl,(hb.cell HGP.out).trans hpa.c0,(hb.cell HGP.out).trans hpa.c1,(hb.cell HGP.out).trans e2,(hb.cell HGP.out).trans e3,(hb.cell HGP.out).trans e4,(hb.cell HGP.out).trans hpa.c5,(hb.cell HGP.out).trans hpa.c6,(hb.cell HGP.out).trans hpa.c7,(hb.cell HGP.out).trans hpa.c8,(hb.cell HGP.out).trans hpa.c9⟩
 have HFA:Hid (frameAt m (k:Int)=p.frame.length∧prioN m (k:Int)=p.prio):=Lib.hid (by
  unfold frameAt prioN;rw [Int.toNat_natCast,hp];exact ⟨rfl,rfl⟩)
 have hf8:=HF.out p (List.mem_of_getElem? hp);clear hp ho hgp hpa hft e2 e3 e4
 go_region_held3 (fun W'=>Below W3.heap.size W3 W'∧W'.cell? ⟨rb,0,none⟩=some (.pointer (some ⟨mb,0,none⟩))∧W'.cell? ⟨mb,4,none⟩=some (.slice (some ⟨gp,op,none⟩) m.procs.length h.pc)∧W'.cell? ⟨pb,0,none⟩=some (.int .i64 (k:Int))∧
  W'.cell? ⟨gp,op+k*10,none⟩=some (.string p.name)∧W'.cell? ⟨gp,op+k*10+1,none⟩=some (.int .i64 p.params)∧W'.cell? ⟨gp,op+k*10+2,none⟩=some (.slice fto p.frame.length ftc)∧W'.cell? ⟨gp,op+k*10+3,none⟩=some (.slice io p.init.length ic)∧W'.cell? ⟨gp,op+k*10+4,none⟩=some (.slice lo p.locs.length lc)∧W'.cell? ⟨gp,op+k*10+5,none⟩=some (.int .i64 p.start)∧W'.cell? ⟨gp,op+k*10+6,none⟩=some (.int .i64 p.final)∧W'.cell? ⟨gp,op+k*10+7,none⟩=some (.int .i64 p.active)∧W'.cell? ⟨gp,op+k*10+8,none⟩=some (.int .i64 p.prio)∧W'.cell? ⟨gp,op+k*10+9,none⟩=some (.int .i64 p.provided))
  (first | assumption | with_reducible exact HS.out _ (Below.refl _ _).drew | with_reducible exact HS.out _ (by assumption) | with_reducible exact HS.out _ (Below.alloc (And.left (by assumption)) (Below.size (And.left (by assumption))) _) | with_reducible exact HS.out _ (Below.alloc (by assumption) (Below.size (by assumption)) _) | with_reducible exact HS.out _ (Below.drew (Below.alloc (Below.refl _ _) (Nat.le_refl _) _)))
  (fail)
 obtain ⟨PC,hPC⟩:∃c:Array Value,c= #[.string p.name,.int .i64 p.params,.slice fto p.frame.length ftc,.slice io p.init.length ic,.slice lo p.locs.length lc,.int .i64 p.start,.int .i64 p.final,.int .i64 p.active,.int .i64 p.prio,.int .i64 p.provided]:=⟨_,rfl⟩;have HPC:=Lib.hid hPC;rw [←hPC];obtain ⟨W4,hW4⟩:∃W4,W4= (W3.alloc (.cells PC 67)).drew:=⟨_,rfl⟩;have HB4:Hid (Below W3.heap.size W3 W4):=Lib.hid (by rw [hW4];exact (ball _).drew);have HT:Hid (W4.heap[W3.heap.size]? =some (.cells PC 67 (0,0))):=Lib.hid (by rw [hW4];exact heap_alloc_new _ _);have HL4:=Lib.hid (HL0.out.below HB4.out);have HTB:Hid (W3.heap.size≠pb∧W3.heap.size≠rb∧W3.heap.size≠ob):=Lib.hid ⟨by have:=lt_of_block HL0.out.p;omega,by have:=HL0.out.x.lt;omega,by have:=lt_of_block HL0.out.o;omega⟩;obtain ⟨tb,htb⟩:∃b,W3.heap.size=b:=⟨_,rfl⟩;rw [←hW4];rw [htb] at HT HTB
 try rw [htb]
 clear hPC hW4 htb HB4 HL0 HS HGP HX HM
 try simp only [Exit.inBlock,Exit.then]
 have t8:W4.cell? ⟨tb,8,none⟩=some (.int .i64 p.prio):=(cell_of_row _ _ 8 _ _ _ HT.out).trans (by rw [HPC.out];rfl);have t8d:W4.drew.cell? ⟨tb,8,none⟩=some (.int .i64 p.prio):=t8;have htp:tb≠pb:=HTB.out.1;have HBL:=Lib.hid (belowC 256 (HL4.out.x.below (Below.refl _ _).drew));obtain ⟨lv,hlv⟩:∃v,(beF 256 r1).1=v:=⟨_,rfl⟩;obtain ⟨r2,hr2⟩:∃v,(beF 256 r1).2=v:=⟨_,rfl⟩;have HE2:Hid (beF 256 r1= (lv,r2)):=Lib.hid (by rw [←hlv,←hr2]);rw [hlv,hr2] at HBL;clear hlv hr2;go_upto_region 3 with fail
 clear t8
 go_region_held3 (fun W'=>W'.cell? ⟨tb,8,none⟩=some (.int .i64 p.prio))
  (first | assumption | exact t8d | exact cell_set_ne (by assumption) htp)
  (first
    | (go_simp;go_at_call 35;refine HBL.out.mono ?_;rintro e W5 ⟨rfl,hx5,hg5⟩;have t85:W5.cell? ⟨tb,8,none⟩=some (.int .i64 p.prio):=(World.cell?_of_block (hg5.block tb (lt_of_block HT.out) (by have:=HTB.out.2.1;simp;omega))).trans t8d;have HL5:=Lib.hid ((HL4.out.below (Below.refl _ _).drew).read hx5 hg5);have HT5:Hid (W5.heap[tb]? =some (.cells PC 67 (0,0))):=Lib.hid (gb_heap hg5 HT.out HTB.out.2.1);have q1:W5.cell? ⟨pb,1,none⟩=some (.int .i64 0):=HL5.out.cell rfl;have q2:W5.cell? ⟨pb,2,none⟩=some (.int .i64 0):=HL5.out.cell rfl;have f1:W5.frozen? ⟨pb,1,none⟩=false:=frozen_of_row _ _ _ _ _ HL5.out.p;have f2:W5.frozen? ⟨pb,2,none⟩=false:=frozen_of_row _ _ _ _ _ HL5.out.p;clear hx5 hg5))
 have HL6:Hid (PL W rb mb lb pb ob h m #[.int .i64 (k:Int),.int .i64 lv,.int .i64 p.prio,.slice none 0 0] r2 ((W5.setCell ⟨pb,1,none⟩ (.int .i64 lv)).setCell ⟨pb,2,none⟩ (.int .i64 p.prio))):=Lib.hid ((HL5.out.pset 1 (.int .i64 lv)).pset 2 (.int .i64 p.prio));have HT6:Hid (((W5.setCell ⟨pb,1,none⟩ (.int .i64 lv)).setCell ⟨pb,2,none⟩ (.int .i64 p.prio)).heap[tb]? =some (.cells PC 67 (0,0))):=Lib.hid ((heap_setCell_other _ _ _ _ (by show tb≠pb;exact HTB.out.1)).trans ((heap_setCell_other _ _ _ _ (by show tb≠pb;exact HTB.out.1)).trans HT5.out));generalize (W5.setCell ⟨pb,1,none⟩ (.int .i64 lv)).setCell ⟨pb,2,none⟩ (.int .i64 p.prio)=W6 at HL6 HT6 ⊢;clear t85 HL5 HT5 q1 q2 f1 f2 HBL t8d HL4 HT;have t2:W6.cell? ⟨tb,2,none⟩=some (.slice fto p.frame.length ftc):=(cell_of_row _ _ 2 _ _ _ HT6.out).trans (by rw [HPC.out];rfl);have HLI:=Lib.hid (listC p.frame.length (W:=W6) (by omega) HL6.out.x);have HFL:=Lib.hid (li_len p.frame.length r2);obtain ⟨l,hl⟩:∃l,(liF p.frame.length r2).1=l:=⟨_,rfl⟩;obtain ⟨r3,hr3⟩:∃l,(liF p.frame.length r2).2=l:=⟨_,rfl⟩;have HPF:Hid (prF m r= (⟨(k:Int),lv,p.prio,l⟩,r3)):=Lib.hid (by
  unfold prF;rw [HE1.out];simp only;rw [HE2.out];simp only;rw [HFA.out.1,HFA.out.2,hl,hr3])
 rw [hl] at HFL;rw [hl,hr3] at HLI;obtain ⟨f,hf⟩:∃f,p.frame.length=f:=⟨_,rfl⟩;rw [hf] at HFL HLI t2;clear hl hr3 hf
 try simp only [Exit.inBlock,Exit.then]
 go_wp2_with fail;refine HLI.out.mono ?_;rintro e W7 ⟨fo,fc,rfl,hol,hx7,hg7⟩;have HL7:=Lib.hid (HL6.out.read hx7 hg7);have HOL:Hid (W7.ownsRow W.heap.size 2 1 (.slice fo f fc) f (intsV l)):=Lib.hid (Joins.ownsRow_le hol HL6.out.g.size);have q3:W7.cell? ⟨pb,3,none⟩=some (.slice none 0 0):=HL7.out.cell rfl;have f3:W7.frozen? ⟨pb,3,none⟩=false:=frozen_of_row _ _ _ _ _ HL7.out.p;have HL8:Hid (PL W rb mb lb pb ob h m #[.int .i64 (k:Int),.int .i64 lv,.int .i64 p.prio,.slice fo f fc] r3 (W7.setCell ⟨pb,3,none⟩ (.slice fo f fc))):=Lib.hid (HL7.out.pset 3 (.slice fo f fc));have HOL8:Hid ((W7.setCell ⟨pb,3,none⟩ (.slice fo f fc)).ownsRow W.heap.size 2 1 (.slice fo f fc) f (intsV l)):=Lib.hid (owns_set HOL.out _ _ (owns_neObj HOL.out HL7.out.p (by simp)));clear hol hx7 hg7 t2 HL6 HT6 HLI;go_upto_region 5 with fail
 generalize W7.setCell ⟨pb,3,none⟩ (.slice fo f fc)=W8 at HL8 HOL8 ⊢;clear q3 f3 HL7 HOL;have y0:W8.cell? ⟨pb,0,none⟩=some (.int .i64 (k:Int)):=HL8.out.cell rfl;have y1:W8.cell? ⟨pb,1,none⟩=some (.int .i64 lv):=HL8.out.cell rfl;have y2:W8.cell? ⟨pb,2,none⟩=some (.int .i64 p.prio):=HL8.out.cell rfl;have y3:W8.cell? ⟨pb,3,none⟩=some (.slice fo f fc):=HL8.out.cell rfl;have z0:W8.cell? ⟨ob,0,none⟩=some (.int .i64 0):=(cell_of_row _ _ 0 _ _ _ HL8.out.o).trans rfl;have z1:W8.cell? ⟨ob,1,none⟩=some (.int .i64 0):=(cell_of_row _ _ 1 _ _ _ HL8.out.o).trans rfl;have z2:W8.cell? ⟨ob,2,none⟩=some (.int .i64 0):=(cell_of_row _ _ 2 _ _ _ HL8.out.o).trans rfl;have z3:W8.cell? ⟨ob,3,none⟩=some (.slice none 0 0):=(cell_of_row _ _ 3 _ _ _ HL8.out.o).trans rfl;have g0:W8.frozen? ⟨ob,0,none⟩=false:=frozen_of_row _ _ _ _ _ HL8.out.o;have g1:W8.frozen? ⟨ob,1,none⟩=false:=frozen_of_row _ _ _ _ _ HL8.out.o;have g2:W8.frozen? ⟨ob,2,none⟩=false:=frozen_of_row _ _ _ _ _ HL8.out.o;have g3:W8.frozen? ⟨ob,3,none⟩=false:=frozen_of_row _ _ _ _ _ HL8.out.o;have HZ:Hid (PrP rb mb lb (prF m r) W (.returned (.agg #[.int .i64 (k:Int),.int .i64 lv,.int .i64 p.prio,.slice fo f fc])) ((((W8.setCell ⟨ob,0,none⟩ (.int .i64 (k:Int))).setCell ⟨ob,1,none⟩ (.int .i64 lv)).setCell ⟨ob,2,none⟩ (.int .i64 p.prio)).setCell ⟨ob,3,none⟩ (.slice fo f fc))):=Lib.hid (by
  rw [HPF.out];have e1:=gb_set W8 ob 0 (.int .i64 (k:Int));have e2:=gb_set (W8.setCell ⟨ob,0,none⟩ (.int .i64 (k:Int))) ob 1 (.int .i64 lv);have e3:=gb_set ((W8.setCell ⟨ob,0,none⟩ (.int .i64 (k:Int))).setCell ⟨ob,1,none⟩ (.int .i64 lv)) ob 2 (.int .i64 p.prio);have e4:=gb_set (((W8.setCell ⟨ob,0,none⟩ (.int .i64 (k:Int))).setCell ⟨ob,1,none⟩ (.int .i64 lv)).setCell ⟨ob,2,none⟩ (.int .i64 p.prio)) ob 3 (.slice fo f fc);have e5:=gb_trans (gb_trans (gb_trans e1 e2) e3) e4;have hol:=HL8.out.ol;have hrl:=HL8.out.rl;have hne: (Value.slice fo f fc).ownBlock≠some ob:=owns_neObj HOL8.out HL8.out.o (by simp);refine ⟨fo,fc,by simp only [HFL.out], ?_,HL8.out.x.other e5 (by omega),gb_mono HL8.out.g e5 hol⟩;simp only [HFL.out];exact owns_set (owns_set (owns_set (owns_set HOL8.out _ _ hne) _ _ hne) _ _ hne) _ _ hne)
 go_wp2_with fail;refine bodyPost_ret (v:= .agg #[.int .i64 (k:Int),.int .i64 lv,.int .i64 p.prio,.slice fo f fc]) (by simp [results,Tryd.results37,go_sem,z0,z1,z2,z3,y0,y1,y2,y3,g0,g1,g2,g3]) rfl ?_;exact HZ.out
end Go.Proofs.YtnoibjahliafpaaDoor
namespace Go.Proofs.YtnoibjahliafpaaDoor
open Go.ChangeShapes Go.WideShapes Go.ChangeAt Go.RowKit
def CR (B:Nat) (W:World) (o:Option Addr) (c:Nat) (l:List ChanD):Prop:=
 ∃xs,W.ownsRow B 61 2 (.slice o l.length c) l.length xs∧∀i (hi:i < l.length),xs[i*2]? =some (.int .i64 l[i].shape)∧∃qo qc,xs[i*2+1]? =some (.slice qo l[i].queue.length qc)∧QR B W qo qc l[i].queue
def PRr (B:Nat) (W:World) (o:Option Addr) (c:Nat) (l:List ProcessD):Prop:=
 ∃xs,W.ownsRow B 63 4 (.slice o l.length c) l.length xs∧∀i (hi:i < l.length),xs[i*4]? =some (.int .i64 l[i].type)∧xs[i*4+1]? =some (.int .i64 l[i].loc)∧xs[i*4+2]? =some (.int .i64 l[i].prio)∧
  ∃fo fc,xs[i*4+3]? =some (.slice fo l[i].frame.length fc)∧W.ownsRow B 2 1 (.slice fo l[i].frame.length fc) l[i].frame.length (intsV l[i].frame)
section
variable {B b:Nat} {W W1:World} {o:Option Addr} {c:Nat} {l:List ChanD} {ps:List ProcessD}
theorem CR.nil (B:Nat) (W:World):CR B W none 0 []:=⟨[],World.ownsRow_nil _ _ _ _,fun j hj=>absurd hj (by simp)⟩
theorem PRr.nil (B:Nat) (W:World):PRr B W none 0 []:=⟨[],World.ownsRow_nil _ _ _ _,fun j hj=>absurd hj (by simp)⟩
theorem CR.gb (h:CR B W o c l) (hg:W.grownBy W1 (some b)) (hb:b < B):CR B W1 o c l:=by
 obtain ⟨xs,h1,h2⟩:=h;exact ⟨xs,h1.kept hg (.inr fun e=>by have:=(h1.lt _ e).1;omega),fun j hj=>by
  obtain ⟨h3,qo,qc,h4,h5⟩:=h2 j hj;exact ⟨h3,qo,qc,h4,h5.gb hg hb⟩⟩
theorem PRr.gb (h:PRr B W o c ps) (hg:W.grownBy W1 (some b)) (hb:b < B):PRr B W1 o c ps:=by
 obtain ⟨xs,h1,h2⟩:=h;exact ⟨xs,h1.kept hg (.inr fun e=>by have:=(h1.lt _ e).1;omega),fun j hj=>by
  obtain ⟨h3,h4,h5,fo,fc,h6,h7⟩:=h2 j hj;exact ⟨h3,h4,h5,fo,fc,h6,h7.kept hg (.inr fun e=>by have:=(h7.lt _ e).1;omega)⟩⟩
theorem CR.below (h:CR B W o c l) (hb:Below W.heap.size W W1):CR B W1 o c l:=by
 obtain ⟨xs,h1,h2⟩:=h;exact ⟨xs,owns_below h1 hb,fun j hj=>by
  obtain ⟨h3,qo,qc,h4,h5⟩:=h2 j hj;exact ⟨h3,qo,qc,h4,h5.below hb⟩⟩
theorem PRr.below (h:PRr B W o c ps) (hb:Below W.heap.size W W1):PRr B W1 o c ps:=by
 obtain ⟨xs,h1,h2⟩:=h;exact ⟨xs,owns_below h1 hb,fun j hj=>by
  obtain ⟨h3,h4,h5,fo,fc,h6,h7⟩:=h2 j hj;exact ⟨h3,h4,h5,fo,fc,h6,owns_below h7 hb⟩⟩
theorem CR.set (h:CR B W o c l) {cs:Array Value} {fr:Nat × Nat} (hb:W.heap[b]? =some (.cells cs 33 fr)) (i:Nat) (v:Value):CR B (W.setCell ⟨b,i,none⟩ v) o c l:=by
 obtain ⟨xs,h1,h2⟩:=h;exact ⟨xs,owns_set h1 _ _ (owns_neObj h1 hb (by simp)),fun j hj=>by
  obtain ⟨h3,qo,qc,h4,h5⟩:=h2 j hj;exact ⟨h3,qo,qc,h4,h5.set hb (by simp) (by simp) i v⟩⟩
theorem PRr.set (h:PRr B W o c ps) {cs:Array Value} {fr:Nat × Nat} (hb:W.heap[b]? =some (.cells cs 33 fr)) (i:Nat) (v:Value):PRr B (W.setCell ⟨b,i,none⟩ v) o c ps:=by
 obtain ⟨xs,h1,h2⟩:=h;exact ⟨xs,owns_set h1 _ _ (owns_neObj h1 hb (by simp)),fun j hj=>by
  obtain ⟨h3,h4,h5,fo,fc,h6,h7⟩:=h2 j hj;exact ⟨h3,h4,h5,fo,fc,h6,owns_set h7 _ _ (owns_neObj h7 hb (by simp))⟩⟩
theorem CR.grow {B':Nat} {e:TypeId} {size n:Nat} {v:Value} {xs:List Value} (h:CR B W o c l) (hr:W.ownsRow B' e size v n xs) (hg:W.grownBy W1 v.ownBlock) (h0:61≠e) (h1:75≠e) (h2:2≠e):CR B W1 o c l:=by
 obtain ⟨xs,h3,h4⟩:=h;exact ⟨xs,h3.kept hg (owns_ne h3 hr h0),fun j hj=>by
  obtain ⟨h5,qo,qc,h6,h7⟩:=h4 j hj;exact ⟨h5,qo,qc,h6,h7.grow hr hg h1 h2⟩⟩
theorem PRr.grow {B':Nat} {e:TypeId} {size n:Nat} {v:Value} {xs:List Value} (h:PRr B W o c ps) (hr:W.ownsRow B' e size v n xs) (hg:W.grownBy W1 v.ownBlock) (h0:63≠e) (h2:2≠e):PRr B W1 o c ps:=by
 obtain ⟨xs,h3,h4⟩:=h;exact ⟨xs,h3.kept hg (owns_ne h3 hr h0),fun j hj=>by
  obtain ⟨h5,h6,h7,fo,fc,h8,h9⟩:=h4 j hj;exact ⟨h5,h6,h7,fo,fc,h8,h9.kept hg (owns_ne h9 hr h2)⟩⟩
theorem CR.step {xs:List Value} {x:ChanD} {qo:Option Addr} {qc:Nat} {o':Option Addr} {c':Nat} (hq:W.ownsRow B 61 2 (.slice o l.length c) l.length xs)
 (hqm:∀i (hi:i < l.length),xs[i*2]? =some (.int .i64 l[i].shape)∧∃qo qc,xs[i*2+1]? =some (.slice qo l[i].queue.length qc)∧QR B W qo qc l[i].queue) (hx:QR B W qo qc x.queue)
 (hg:W.grownBy W1 (Value.slice o l.length c).ownBlock) (hr:W1.ownsRow B 61 2 (.slice o' (l.length+1) c') (l.length+1) (xs ++ [.int .i64 x.shape,.slice qo x.queue.length qc])):CR B W1 o' c' (l ++ [x]):=by
 have hlen:xs.length=l.length*2:=hq.1;refine ⟨xs ++ [.int .i64 x.shape,.slice qo x.queue.length qc],by rw [List.length_append,List.length_singleton];exact hr,fun i hi=> ?_⟩;rw [List.length_append,List.length_singleton] at hi;by_cases e:i < l.length
 · obtain ⟨h3,qo2,qc2,h4,h5⟩:=hqm i e;have e1: (l ++ [x])[i]=l[i]:=List.getElem_append_left e;rw [e1];exact ⟨by rw [List.getElem?_append_left (by omega)];exact h3,qo2,qc2,by rw [List.getElem?_append_left (by omega)];exact h4,h5.grow hq hg (by simp) (by simp)⟩
 · obtain rfl:i=l.length:=by omega
   have e1: (l ++ [x])[l.length]=x:=by simp
   rw [e1];exact ⟨by rw [List.getElem?_append_right (by omega),hlen];simp,qo,qc,by rw [List.getElem?_append_right (by omega),hlen,show l.length*2+1 - l.length*2=1 by omega];rfl,hx.grow hq hg (by simp) (by simp)⟩
theorem PRr.step {xs:List Value} {x:ProcessD} {fo:Option Addr} {fc:Nat} {o':Option Addr} {c':Nat} (hq:W.ownsRow B 63 4 (.slice o ps.length c) ps.length xs)
 (hqm:∀i (hi:i < ps.length),xs[i*4]? =some (.int .i64 ps[i].type)∧xs[i*4+1]? =some (.int .i64 ps[i].loc)∧xs[i*4+2]? =some (.int .i64 ps[i].prio)∧
   ∃fo fc,xs[i*4+3]? =some (.slice fo ps[i].frame.length fc)∧W.ownsRow B 2 1 (.slice fo ps[i].frame.length fc) ps[i].frame.length (intsV ps[i].frame))
 (hx:W.ownsRow B 2 1 (.slice fo x.frame.length fc) x.frame.length (intsV x.frame))
 (hg:W.grownBy W1 (Value.slice o ps.length c).ownBlock) (hr:W1.ownsRow B 63 4 (.slice o' (ps.length+1) c') (ps.length+1) (xs ++ [.int .i64 x.type,.int .i64 x.loc,.int .i64 x.prio,.slice fo x.frame.length fc])):PRr B W1 o' c' (ps ++ [x]):=by
 have hlen:xs.length=ps.length*4:=hq.1;refine ⟨xs ++ [.int .i64 x.type,.int .i64 x.loc,.int .i64 x.prio,.slice fo x.frame.length fc],by rw [List.length_append,List.length_singleton];exact hr,fun i hi=> ?_⟩;rw [List.length_append,List.length_singleton] at hi;by_cases e:i < ps.length
 · obtain ⟨h3,h4,h5,fo2,fc2,h6,h7⟩:=hqm i e;have e1: (ps ++ [x])[i]=ps[i]:=List.getElem_append_left e;rw [e1];exact ⟨by rw [List.getElem?_append_left (by omega)];exact h3,by rw [List.getElem?_append_left (by omega)];exact h4,by rw [List.getElem?_append_left (by omega)];exact h5,fo2,fc2,by rw [List.getElem?_append_left (by omega)];exact h6,h7.kept hg (owns_ne h7 hq (by simp))⟩
 · obtain rfl:i=ps.length:=by omega
   have e1: (ps ++ [x])[ps.length]=x:=by simp
   rw [e1];refine ⟨?_, ?_, ?_,fo,fc, ?_,hx.kept hg (owns_ne hx hq (by simp))⟩
   · rw [List.getElem?_append_right (by omega),hlen];simp
   · rw [List.getElem?_append_right (by omega),hlen,show ps.length*4+1 - ps.length*4=1 by omega];rfl
   · rw [List.getElem?_append_right (by omega),hlen,show ps.length*4+2 - ps.length*4=2 by omega];rfl
   · rw [List.getElem?_append_right (by omega),hlen,show ps.length*4+3 - ps.length*4=3 by omega];rfl
theorem ints_row {n:Nat} {l:List Int} (h:W.ownsRow B 2 1 (.slice o n c) n (intsV l)) (hn:l.length=n) (hl:n≤140737488355328):Row W.heap.size o 1 (intAt W) l:=by
 refine ⟨by omega, ?_⟩;rcases owns_row h with h0 | ⟨g,e,-,hg,hc⟩
 · exact .inl (by omega)
 · refine .inr ⟨g,0,e,hg,fun i hi=> ?_⟩;have h2:=hc i (by omega);unfold intAt;rw [show 0+i*1=i by omega,h2];simp [intsV,hi]
end
theorem rows_sd {B:Nat} {W:World} {hs:SH} {s:StateD} (hg:W.ownsRow B 2 1 (.slice hs.go s.globals.length hs.gc) s.globals.length (intsV s.globals)) (hc:CR B W hs.co hs.cc s.chans) (hp:PRr B W hs.po hs.pc s.procs) (hl:Lens s):SD W.heap.size W hs s:=by
 refine ⟨ints_row hg rfl hl.g, ?_, ?_⟩
 · obtain ⟨xs,hr,hi⟩:=hc;refine ⟨hl.c, ?_⟩;rcases owns_row hr with h0 | ⟨g,e,-,hg,hcc⟩
   · exact .inl h0
   · refine .inr ⟨g,0,e,hg,fun i hi'=> ?_⟩;obtain ⟨x0,qo,qc,x1,ys,hq,hm⟩:=hi i hi';have hlq:=hl.q s.chans[i] (List.getElem_mem hi');refine ⟨?_,qo,qc, ?_,hlq.1, ?_⟩
     · rw [←x0,←hcc (i*2) (by omega)];congr 2;omega
     · rw [←x1,←hcc (i*2+1) (by omega)];congr 2;omega
     · rcases owns_row hq with h0 | ⟨g2,e2,-,hg2,hc2⟩
       · exact .inl h0
       · refine .inr ⟨g2,0,e2,hg2,fun j hj=> ?_⟩;obtain ⟨o3,c3,y0,y1⟩:=hm j hj;refine ⟨o3,c3, ?_,ints_row y1 rfl (hlq.2 _ (List.getElem_mem hj))⟩;rw [←y0,←hc2 j (by omega)];congr 2;omega
 · obtain ⟨xs,hr,hi⟩:=hp;refine ⟨hl.p, ?_⟩;rcases owns_row hr with h0 | ⟨g,e,-,hg,hcc⟩
   · exact .inl h0
   · refine .inr ⟨g,0,e,hg,fun i hi'=> ?_⟩;obtain ⟨x0,x1,x2,fo,fc,x3,x4⟩:=hi i hi';refine ⟨?_, ?_, ?_,fo,fc, ?_,ints_row x4 rfl (hl.f _ (List.getElem_mem hi'))⟩
     · rw [←x0,←hcc (i*4) (by omega)];congr 2;omega
     · rw [←x1,←hcc (i*4+1) (by omega)];congr 2;omega
     · rw [←x2,←hcc (i*4+2) (by omega)];congr 2;omega
     · rw [←x3,←hcc (i*4+3) (by omega)];congr 2;omega
structure SRow (B:Nat) (W:World) (hs:SH) (s:StateD):Prop where
 g:W.ownsRow B 2 1 (.slice hs.go s.globals.length hs.gc) s.globals.length (intsV s.globals)
 c:CR B W hs.co hs.cc s.chans
 p:PRr B W hs.po hs.pc s.procs
 l:Lens s
theorem SRow.sd {B:Nat} {W:World} {hs:SH} {s:StateD} (h:SRow B W hs s):SD W.heap.size W hs s:=rows_sd h.g h.c h.p h.l
theorem SRow.gb {B b:Nat} {W W1:World} {hs:SH} {s:StateD} (h:SRow B W hs s) (hg:W.grownBy W1 (some b)) (hb:b < B):SRow B W1 hs s:=
 ⟨h.g.kept hg (.inr fun e=>by have:=(h.g.lt _ e).1;omega),h.c.gb hg hb,h.p.gb hg hb,h.l⟩
theorem SRow.below {B:Nat} {W W1:World} {hs:SH} {s:StateD} (h:SRow B W hs s) (hb:Below W.heap.size W W1):SRow B W1 hs s:=
 ⟨owns_below h.g hb,h.c.below hb,h.p.below hb,h.l⟩
theorem fieldsN_le {m:ModelD} (h:∀s ∈ m.shapes,s.fields.length≤8) (t:Int):fieldsN m t≤8:=by
 unfold fieldsN;cases hs:m.shapes[t.toNat]? with
 | none=>simp
 | some s=>simp;exact h s (List.mem_of_getElem? hs)
theorem frameAt_le {m:ModelD} (h:∀p ∈ m.procs,p.frame.length≤128) (t:Int):frameAt m t≤128:=by
 unfold frameAt;cases hs:m.procs[t.toNat]? with
 | none=>simp
 | some s=>simp;exact h s (List.mem_of_getElem? hs)
theorem qu_small (f:Nat):∀ (n:Nat) (r:RdS),∀q ∈ (quF f n r).1,q.length=f
 | 0,r,q,hq=>by simp [quF] at hq
 | n+1,r,q,hq=>by
   rw [quF] at hq;rcases List.mem_append.1 hq with h | h
   · exact qu_small f n r q h
   · rw [List.mem_singleton] at h;rw [h,li_len]
theorem ch_small {m:ModelD} (h:∀s ∈ m.shapes,s.fields.length≤8) (r:RdS): (chF m r).1.queue.length≤17∧∀q ∈ (chF m r).1.queue,q.length≤8:=by
 unfold chF;split
 · simp
 · refine ⟨?_,fun q hq=> ?_⟩
   · simp only;rw [qu_len];have:=be_range (most:=17) (by omega) (beF m.shapes.length r).2;omega
   · have h1:=qu_small _ _ _ q hq;have:=fieldsN_le h (beF m.shapes.length r).1;omega
theorem pr_small {m:ModelD} (h:∀p ∈ m.procs,p.frame.length≤128) (r:RdS): (prF m r).1.frame.length≤128:=by
 unfold prF;simp only;rw [li_len];exact frameAt_le h _
end Go.Proofs.YtnoibjahliafpaaDoor
