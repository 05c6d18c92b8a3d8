/- A process that begins, as the document makes it. -/
import Derived.Test.YtnoibjahliafpaaGreatDoorM20
import Derived.Test.YtnoibjahliafpaaGreatDoorM25
import Derived.Test.YtnoibjahliafpaaGreatDoorM36
set_option linter.unusedVariables false
set_option linter.unusedSimpArgs false
namespace Go.Proofs.YtnoibjahliafpaaGreatDoor
open Go.ChangeShapes Go.WideShapes Go.ChangeAt Go.RowKit
structure BY (w0:World) (PC:Array Value) (t:Int) (p:ProcD) (args:List Int) (fo:Option Addr) (fc k:Nat) (W:World):Prop where
 own:W.ownsRow (w0.heap.size+4) 2 1 (.slice fo p.init.length fc) p.init.length (intsV (frameK p.frame p.init args k))
 bel:Below w0.heap.size w0 W
 res:W.heap[w0.heap.size+1]? =some (.cells #[.int .i64 0,.int .i64 0,.int .i64 0,.slice none 0 0] 39 (0,0))
 pb:W.heap[w0.heap.size+2]? =some (.cells PC 69 (0,0))
 xb:W.heap[w0.heap.size+3]? =some (.cells #[.int .i64 t,.int .i64 p.start,.int .i64 p.prio,.slice fo p.init.length fc] 39 (0,0))
section
variable {w0 W W':World} {PC:Array Value} {t:Int} {p:ProcD} {args:List Int} {fo:Option Addr} {g fc k:Nat}
theorem BY.below (h:BY w0 PC t p args fo fc k W) (hb:Below W.heap.size W W'):BY w0 PC t p args fo fc k W':=
 ⟨owns_below h.own hb,h.bel.trans (hb.mono h.bel.size),(hb.block _ (lt_of_block h.res)).trans h.res,(hb.block _ (lt_of_block h.pb)).trans h.pb,(hb.block _ (lt_of_block h.xb)).trans h.xb⟩
theorem BY.step (h:BY w0 PC t p args (some ⟨g,0,none⟩) fc k W) (hk:k < p.init.length) (z:Int) (hz:val.fitI (p.frame.getD k (0,false)).1 (p.frame.getD k (0,false)).2 (args.getD k 0)=z):
 BY w0 PC t p args (some ⟨g,0,none⟩) fc (k+1) (W.setCell ⟨g,k,none⟩ (.int .i64 z)):=by
 have hg:=h.own.lt g rfl;refine ⟨?_,h.bel.setCell (by show _≤g;omega) _, ?_, ?_, ?_⟩
 · have h1:=(h.own.stored k (.int .i64 z)).1;rw [←ints_put,←hz,frameK_step _ _ _ hk,hz] at h1;exact h1
 · rw [heap_setCell_other _ _ _ _ (by show _≠g;omega)];exact h.res
 · rw [heap_setCell_other _ _ _ _ (by show _≠g;omega)];exact h.pb
 · rw [heap_setCell_other _ _ _ _ (by show _≠g;omega)];exact h.xb
theorem BY.done (h:BY w0 PC t p args fo fc k W) (v0 v1 v2 v3:Value):
 ((((W.setCell ⟨w0.heap.size+1,0,none⟩ v0).setCell ⟨w0.heap.size+1,1,none⟩ v1).setCell ⟨w0.heap.size+1,2,none⟩ v2).setCell ⟨w0.heap.size+1,3,none⟩ v3).ownsRow w0.heap.size 2 1 (.slice fo p.init.length fc) p.init.length (intsV (frameK p.frame p.init args k))∧
 Below w0.heap.size w0 ((((W.setCell ⟨w0.heap.size+1,0,none⟩ v0).setCell ⟨w0.heap.size+1,1,none⟩ v1).setCell ⟨w0.heap.size+1,2,none⟩ v2).setCell ⟨w0.heap.size+1,3,none⟩ v3):=by
 have hne: (Value.slice fo p.init.length fc).ownBlock≠some (w0.heap.size+1):=fun e=>by have:=(h.own.lt _ e).1;omega
 exact ⟨Joins.ownsRow_le (owns_set (owns_set (owns_set (owns_set h.own _ _ hne) _ _ hne) _ _ hne) _ _ hne) (by omega),(((h.bel.setCell (by simp) _).setCell (by simp) _).setCell (by simp) _).setCell (by simp) _⟩
end
set_option maxHeartbeats 4000000 in
set_option maxRecDepth 100000 in
theorem begin12H {B:Nat} {h:MH} {m:ModelD} {t:Nat} {p:ProcD} {args:List Int} {ao:Option Addr} {ac:Nat} (w:World) (hB:B≤w.heap.size) (hm:MD B w h m) (hp:m.procs[t]? =some p) (hpi:p.init.length=p.frame.length) (hil:p.init.length*8≤140737488355328)
 (ha:Row B ao 1 (intAt w) args) (hal:args.length≤p.frame.length):
 Calls Tryz.prog 11 #[mV h m,.int .i64 t,.slice ao args.length ac] w (BegP w t p args):=by
 have hpl:=hm.procs.1;have htl:t < m.procs.length:=(List.getElem?_eq_some_iff.1 hp).1;have hti: (t:Int) < m.procs.length:=by omega
 have ht0: (0:Int)≤t:=by omega
 obtain ⟨gm,om,hom,hgm,hpa⟩:=hm.procs.get hp;obtain ⟨fto,ftc,c2,hft⟩:=hpa.frame;obtain ⟨io,ic,c3,hin⟩:=hpa.init;obtain ⟨lo,lc,c4,-⟩:=hpa.locs;have c0:=hpa.c0;have c1:=hpa.c1;have c5:=hpa.c5;have c6:=hpa.c6;have c7:=hpa.c7;have c8:=hpa.c8;have c9:=hpa.c9;have hargl:=ha.1;have hfl:=hft.1;obtain ⟨W1,hW1⟩:∃W1,W1= (w.alloc (.cells (mCells h m) 29)).alloc (.cells #[.int .i64 0,.int .i64 0,.int .i64 0,.slice none 0 0] 39):=⟨_,rfl⟩;have HB1:Hid (Below w.heap.size w W1):=Lib.hid (by rw [hW1];exact ((Below.refl _ _).alloc (Nat.le_refl _) _).alloc (by simp) _);have hs1:W1.heap.size=w.heap.size+2:=by rw [hW1];simp
 have HK1:Hid (W1.heap[w.heap.size+1]? =some (.cells #[.int .i64 0,.int .i64 0,.int .i64 0,.slice none 0 0] 39 (0,0))):=Lib.hid (by rw [hW1];exact at_new (by simp));have m4:W1.cell? ⟨w.heap.size,4,none⟩=some (.slice h.po m.procs.length h.pc):=by
  rw [hW1];exact (cell_of_row _ _ 4 _ _ _ ((Below.heap_alloc _ _ _ (by simp)).trans (heap_alloc_new _ _))).trans rfl
 rw [hom] at m4;have HG:Hid (gm < B∧B≤w.heap.size):=Lib.hid ⟨hgm,hB⟩;have HPI:=Lib.hid hpi;have HIL:=Lib.hid hil;have HAL:=Lib.hid hal;have HFT:=Lib.hid hft;have HIN:=Lib.hid hin;have HAR:=Lib.hid ha;have cc:∀i v,w.cell? ⟨gm,om+t*10+i,none⟩=some v→W1.cell? ⟨gm,om+t*10+i,none⟩=some v:=fun i v hc=>(HB1.out.cell (p:=⟨gm,om+t*10+i,none⟩) (Nat.lt_of_lt_of_le hgm hB)).trans hc
 replace c0:W1.cell? ⟨gm,om+t*10,none⟩=some (.string p.name):=cc 0 _ c0
 replace c1:=cc 1 _ c1
 replace c2:=cc 2 _ c2
 replace c3:=cc 3 _ c3
 replace c4:=cc 4 _ c4
 replace c5:=cc 5 _ c5
 replace c6:=cc 6 _ c6
 replace c7:=cc 7 _ c7
 replace c8:=cc 8 _ c8
 replace c9:=cc 9 _ c9
 clear hm hp hpa hft hin ha hom hgm hB hpi hil hal cc;unfold mV;go_enter Tryz.func11,Tryz.ntmps11;go_upto_region 1 with fail
 rw [←hW1];clear hW1;go_upto_region 2 with fail
 obtain ⟨PC,hPC⟩:∃c:Array Value,c= #[.string p.name,.int .i64 p.params,.slice fto p.frame.length ftc,.slice io p.init.length ic,.slice lo p.locs.length lc,.int .i64 p.start,.int .i64 p.final,.int .i64 p.active,.int .i64 p.prio,.int .i64 p.provided]:=⟨_,rfl⟩;have HPC:=Lib.hid hPC;rw [←hPC];clear hPC c0 c1 c2 c3 c4 c5 c6 c7 c8 c9 m4;have HB2:Hid (Below W1.heap.size W1 (W1.alloc (.cells PC 69))):=Lib.hid (ball _);have HK2:Hid ((W1.alloc (.cells PC 69)).heap[w.heap.size+2]? =some (.cells PC 69 (0,0))):=Lib.hid (by rw [←hs1];exact heap_alloc_new W1 _);have hs2: (W1.alloc (.cells PC 69)).heap.size=w.heap.size+3:=by simp [hs1]
 clear hs1;generalize W1.alloc (.cells PC 69)=W2 at HB2 HK2 hs2 ⊢;have p5:W2.cell? ⟨w.heap.size+2,5,none⟩=some (.int .i64 p.start):=(cell_of_row _ _ 5 _ _ _ HK2.out).trans (by rw [HPC.out];rfl);have p8:W2.cell? ⟨w.heap.size+2,8,none⟩=some (.int .i64 p.prio):=(cell_of_row _ _ 8 _ _ _ HK2.out).trans (by rw [HPC.out];rfl);go_upto_region 3 with fail
 have HB3:Hid (Below W2.heap.size W2 (W2.alloc (.cells #[.int .i64 t,.int .i64 p.start,.int .i64 p.prio,.slice none 0 0] 39))):=Lib.hid (ball _);have HK3:Hid ((W2.alloc (.cells #[.int .i64 t,.int .i64 p.start,.int .i64 p.prio,.slice none 0 0] 39)).heap[w.heap.size+3]? =some (.cells #[.int .i64 t,.int .i64 p.start,.int .i64 p.prio,.slice none 0 0] 39 (0,0))):=Lib.hid (by rw [←hs2];exact heap_alloc_new W2 _);clear hs2 p5 p8;generalize W2.alloc (.cells #[.int .i64 t,.int .i64 p.start,.int .i64 p.prio,.slice none 0 0] 39)=W3 at HB3 HK3 ⊢;have HBW3:Hid (Below w.heap.size w W3):=Lib.hid ((HB1.out.trans (HB2.out.mono HB1.out.size)).trans (HB3.out.mono (Nat.le_trans HB1.out.size HB2.out.size)));have HK23:Hid (W3.heap[w.heap.size+2]? =some (.cells PC 69 (0,0))):=Lib.hid ((HB3.out.block _ (lt_of_block HK2.out)).trans HK2.out);have HK13:Hid (W3.heap[w.heap.size+1]? =some (.cells #[.int .i64 0,.int .i64 0,.int .i64 0,.slice none 0 0] 39 (0,0))):=Lib.hid ((HB3.out.block _ (Nat.lt_of_lt_of_le (lt_of_block HK1.out) HB2.out.size)).trans ((HB2.out.block _ (lt_of_block HK1.out)).trans HK1.out));clear HB1 HB2 HB3 HK1 HK2;have p3:W3.cell? ⟨w.heap.size+2,3,none⟩=some (.slice io p.init.length ic):=(cell_of_row _ _ 3 _ _ _ HK23.out).trans (by rw [HPC.out];rfl);have x3:W3.cell? ⟨w.heap.size+3,3,none⟩=some (.slice none 0 0):=(cell_of_row _ _ 3 _ _ _ HK3.out).trans rfl;have HRI:Hid (Row B io 1 (intAt W3) p.init):=Lib.hid (HIN.out.mono fun _ _ _ hg=>intAt.below (HBW3.out.mono HG.out.2) hg);have HBL:Hid (B≤W3.heap.size):=Lib.hid (Nat.le_trans HG.out.2 HBW3.out.size);go_wp2_with (refine wpList_append_ints rfl _ _ 23 rfl Tryz.underlying23 io ic p.init rfl rfl HRI.out HBL.out HIL.out ?_);intro fo fc W4 hr4 hb4;have HR4:=Lib.hid hr4;have HB4:=Lib.hid hb4;have x3':W4.cell? ⟨w.heap.size+3,3,none⟩=some (.slice none 0 0):=(hb4.cell (p:=⟨w.heap.size+3,3,none⟩) (lt_of_block HK3.out)).trans x3;have f3:W4.frozen? ⟨w.heap.size+3,3,none⟩=false:=(hb4.frozen (p:=⟨w.heap.size+3,3,none⟩) (lt_of_block HK3.out)).trans (frozen_of_row _ _ _ _ _ HK3.out);have HX:Hid (BY w PC t p args fo fc 0 (W4.setCell ⟨w.heap.size+3,3,none⟩ (.slice fo p.init.length fc))):=Lib.hid (by
  have hle:=lt_of_block HK3.out;have h3:W4.heap[w.heap.size+3]? =some (.cells #[.int .i64 t,.int .i64 p.start,.int .i64 p.prio,.slice none 0 0] 39 (0,0)):=(hb4.block _ hle).trans HK3.out;refine ⟨?_,(HBW3.out.trans (hb4.mono HBW3.out.size)).setCell (by simp) _, ?_, ?_,heap_setCell_same _ _ _ _ _ _ h3⟩
  · rw [frameK_zero];exact Joins.ownsRow_le (owns_set hr4 _ _ (fun e=>by have h1:=(hr4.lt _ e).1;simp only at h1;omega)) hle
  · rw [heap_setCell_other _ _ _ _ (by show _≠w.heap.size+3;omega)];exact (hb4.block _ (lt_of_block HK13.out)).trans HK13.out
  · rw [heap_setCell_other _ _ _ _ (by show _≠w.heap.size+3;omega)];exact (hb4.block _ (lt_of_block HK23.out)).trans HK23.out)
 clear hr4 hb4 x3 p3 HR4 HB4 HK23 HK13 HK3 HRI HBL HBW3;go_upto_region 4 with fail
 generalize W4.setCell ⟨w.heap.size+3,3,none⟩ (.slice fo p.init.length fc)=W5 at HX ⊢;clear x3' f3;go_wp2_with fail
 go_loopw [9] (fun iv W=>∃k:Nat,iv= .int .i64 k∧k≤args.length∧Hid (BY w PC t p args fo fc k W)) (fun iv _=>args.length - (intOf iv).toNat)
 case atStart=>exact ⟨0,rfl,by omega,HX⟩
 case round=>
  clear HX;obtain ⟨k,rfl,hk,HX⟩:=hrel;have hk0: (0:Int)≤k:=by omega
  by_cases hlt:k < args.length
  · have hlti: (k:Int) < args.length:=by omega
    have hkf:k < p.frame.length:=by have:=HAL.out;omega
    have hkn:k < p.init.length:=by have:=HPI.out;omega
    have hkfi: (k:Int) < p.frame.length:=by omega
    have hkni: (k:Int) < p.init.length:=by omega
    obtain ⟨ga,oa,hoa,hga,ea⟩:=HAR.out.cell hlt;rw [Nat.mul_one] at ea;obtain ⟨v,hv⟩:∃v,args[k]=v:=⟨_,rfl⟩;rw [hv] at ea;subst hoa;obtain ⟨gt,ot,hot,hgt,et⟩:=HFT.out.cell hkf;obtain ⟨⟨tb,ts⟩,hty⟩:∃t,p.frame[k]=t:=⟨_,rfl⟩;rw [hty] at et;obtain ⟨z,hz⟩:∃z,val.fitI tb ts v=z:=⟨_,rfl⟩;have HFT2:=Lib.hid (fun W=>val.rfit_any tb v ts W);have HZE:=Lib.hid hz;have HZ:Hid (val.fitI (p.frame.getD k (0,false)).1 (p.frame.getD k (0,false)).2 (args.getD k 0)=z):=Lib.hid (by
     rw [←hz,List.getD_eq_getElem?_getD,List.getElem?_eq_getElem hkf,hty,List.getD_eq_getElem?_getD,List.getElem?_eq_getElem hlt,hv];rfl)
    have HL:Hid (ga < wr.heap.size∧gt < wr.heap.size):=Lib.hid ⟨by have:=HG.out;have:=HX.out.bel.size;omega,by have:=HG.out;have:=HX.out.bel.size;omega⟩;have p2:wr.drew.cell? ⟨w.heap.size+2,2,none⟩=some (.slice fto p.frame.length ftc):=(cell_of_row _ _ 2 _ _ _ HX.out.pb).trans (by rw [HPC.out];rfl);rw [hot] at p2;have x3:wr.drew.cell? ⟨w.heap.size+3,3,none⟩=some (.slice fo p.init.length fc):=(cell_of_row _ _ 3 _ _ _ HX.out.xb).trans rfl;have ea':wr.drew.cell? ⟨ga,oa+k,none⟩=some (.int .i64 v):=(HX.out.bel.cell (p:=⟨ga,oa+k,none⟩) (Nat.lt_of_lt_of_le hga HG.out.2)).trans ea;have t0:wr.drew.cell? ⟨gt,ot+k*2,none⟩=some (.int .i64 tb):=(HX.out.bel.cell (p:=⟨gt,ot+k*2,none⟩) (Nat.lt_of_lt_of_le hgt HG.out.2)).trans et.1;have t1:wr.drew.cell? ⟨gt,ot+k*2+1,none⟩=some (.bool ts):=(HX.out.bel.cell (p:=⟨gt,ot+k*2+1,none⟩) (Nat.lt_of_lt_of_le hgt HG.out.2)).trans et.2;obtain ⟨gb,cap,e⟩:=Joins.ownsRow_form HX.out.own (by omega);injection e with e1 e2 e3
    subst e1;have hgb:=(HX.out.own.lt gb rfl).2;have HF:Hid (∀W,Below wr.heap.size wr W→W.cell? ⟨gb,k,none⟩=some (.int .i64 ((frameK p.frame p.init args k)[k]'(by rw [frameK_len];omega)))∧W.frozen? ⟨gb,k,none⟩=false):=Lib.hid fun W hb=>by
     have m1:=HX.out.own.cellAt k (by omega);have m2:=HX.out.own.frozenAt k;have hvk: (intsV (frameK p.frame p.init args k))[k]? =some (.int .i64 ((frameK p.frame p.init args k)[k]'(by rw [frameK_len];omega))):=by simp [intsV,frameK_len,hkn]
     rw [hvk] at m1;exact ⟨(hb.cell (p:=⟨gb,k,none⟩) hgb).trans m1,(hb.frozen (p:=⟨gb,k,none⟩) hgb).trans m2⟩
    clear ea et hga hgt hty hv hot e2 e3 hz;go_wp2_with fail
    go_region_law
     (first
       | (go_simp;go_at_call 30;refine (HFT2.out _).mono ?_;rintro e w2 ⟨rfl,hb2⟩;rw [HZE.out];have HBF:Hid (Below wr.heap.size wr w2):=Lib.hid ((Below.refl _ _).drew.trans hb2);obtain ⟨m1,m2⟩:=HF.out w2 HBF.out;have x4:w2.cell? ⟨w.heap.size+3,3,none⟩=some (.slice (some ⟨gb,0,none⟩) p.init.length fc):=(HBF.out.cell (p:=⟨w.heap.size+3,3,none⟩) (lt_of_block HX.out.xb)).trans x3;clear hb2))
    all_goals (
     have HS:=Lib.hid ((HX.out.below HBF.out).step hkn z HZ.out);clear p2 x3 x4 ea' t0 t1 m1 m2 HBF
     try simp only [Exit.inBlock,Exit.then]
     go_wp2_with fail;go_roundw;case rel=>exact ⟨k+1,by go_num,by omega,HS⟩
     case measure=>simp [intOf];omega)
  · have hlti:¬ (k:Int) < args.length:=by omega
    have hke:k=args.length:=by omega
    have HE:Hid (BY w PC t p args fo fc args.length wr):=Lib.hid (hke ▸ HX.out);have p0:wr.cell? ⟨w.heap.size+3,0,none⟩=some (.int .i64 t):=(cell_of_row _ _ 0 _ _ _ HX.out.xb).trans rfl;have p1:wr.cell? ⟨w.heap.size+3,1,none⟩=some (.int .i64 p.start):=(cell_of_row _ _ 1 _ _ _ HX.out.xb).trans rfl;have p2:wr.cell? ⟨w.heap.size+3,2,none⟩=some (.int .i64 p.prio):=(cell_of_row _ _ 2 _ _ _ HX.out.xb).trans rfl;have p3:wr.cell? ⟨w.heap.size+3,3,none⟩=some (.slice fo p.init.length fc):=(cell_of_row _ _ 3 _ _ _ HX.out.xb).trans rfl;have q0:wr.cell? ⟨w.heap.size+1,0,none⟩=some (.int .i64 0):=(cell_of_row _ _ 0 _ _ _ HX.out.res).trans rfl;have q1:wr.cell? ⟨w.heap.size+1,1,none⟩=some (.int .i64 0):=(cell_of_row _ _ 1 _ _ _ HX.out.res).trans rfl;have q2:wr.cell? ⟨w.heap.size+1,2,none⟩=some (.int .i64 0):=(cell_of_row _ _ 2 _ _ _ HX.out.res).trans rfl;have q3:wr.cell? ⟨w.heap.size+1,3,none⟩=some (.slice none 0 0):=(cell_of_row _ _ 3 _ _ _ HX.out.res).trans rfl;have f0:wr.frozen? ⟨w.heap.size+1,0,none⟩=false:=frozen_of_row _ _ _ _ _ HX.out.res;have f1:wr.frozen? ⟨w.heap.size+1,1,none⟩=false:=frozen_of_row _ _ _ _ _ HX.out.res;have f2:wr.frozen? ⟨w.heap.size+1,2,none⟩=false:=frozen_of_row _ _ _ _ _ HX.out.res;have f3:wr.frozen? ⟨w.heap.size+1,3,none⟩=false:=frozen_of_row _ _ _ _ _ HX.out.res;have HEN:=Lib.hid (HE.out.done (.int .i64 t) (.int .i64 p.start) (.int .i64 p.prio) (.slice fo p.init.length fc));clear hke HX HE;go_wp2_with fail;refine bodyPost_ret (v:= .agg #[.int .i64 t,.int .i64 p.start,.int .i64 p.prio,.slice fo p.init.length fc]) (by simp [results,Tryz.results11,go_sem,q0,q1,q2,q3,f0,f1,f2,f3]) rfl ?_;exact ⟨fo,fc,rfl,HEN.out.1,HEN.out.2⟩
end Go.Proofs.YtnoibjahliafpaaGreatDoor
