/- What is written is read as the same; what came in, opened. -/
import Derived.Test.YtnoibjahliafpaaDoorBBaseAll
set_option linter.unusedVariables false
set_option linter.unusedSimpArgs false
namespace Go.Proofs.YtnoibjahliafpaaDoor
open Go.ChangeShapes Go.WideShapes Go.ChangeAt Go.RowKit
open Go.ChangeMaps (open_string shut_string)
theorem back_read {m:ModelD} {s:StateD} (h:stateE m s=0):decE m (encT m s)=0∧decS m (encT m s)=s∧ (encT m s).length≤4294967281:=by
 obtain ⟨hg,hm⟩:=stateE_ok h;have e:encT m s=textS s:=if_pos h;have hp:decP m (textS s)=some s:=(decP_iff hg _ _).2 ⟨hm,rfl⟩;have v:=may_vl hg hm;have h1:=rowT_len v.ints;have h2:=v.many;rw [e];refine ⟨?_, ?_, ?_⟩
 · unfold decE;rw [hg,if_pos rfl,hp]
 · unfold decS;rw [hg,if_pos rfl,hp]
 · unfold textS;omega
theorem back_same {m:ModelD} {s t:StateD} (h1:stateE m s=0) (h2:stateE m t=0):sameB s t=decide (encT m s=encT m t):=by
 obtain ⟨hg,hm1⟩:=stateE_ok h1;obtain ⟨-,hm2⟩:=stateE_ok h2;have e1:encT m s=textS s:=if_pos h1;have e2:encT m t=textS t:=if_pos h2;by_cases h:s=t
 · rw [sameB_yes h,h];exact (decide_eq_true rfl).symm
 · rw [sameB_no h];refine (decide_eq_false fun e=>h ?_).symm;rw [e1,e2] at e;exact text_inj hg hm1 hm2 e
theorem back_write {m:ModelD} {b:List UInt8} (h:decE m b=0):stateE m (decS m b)=0∧encT m (decS m b)=b:=by
 unfold decE at h;by_cases hg:goodB m=true
 · rw [if_pos hg] at h;cases hp:decP m b with
   | none=>rw [hp] at h;cases h
   | some s=>
     obtain ⟨hm,ht⟩:=(decP_iff hg _ _).1 hp;have e:decS m b=s:=by unfold decS;rw [if_pos hg,hp]
     have h0:stateE m s=0:=by unfold stateE;rw [if_pos hg,if_pos hm]
     rw [e];exact ⟨h0,by rw [←ht];exact if_pos h0⟩
 · rw [if_neg hg] at h;cases h
def bCells (h:MH) (m:ModelD) (hs:SH) (s:StateD) (ht:SH) (t:StateD) (b:ByteArray):Array Value:=#[.slice h.go m.globals.length h.gc,.slice h.io m.init.length h.ic,.slice h.so m.shapes.length h.sc,.slice h.co m.chans.length h.cc,.slice h.po m.procs.length h.pc,.int .i64 m.claim,.slice h.eo m.exprs.length h.ec,.slice hs.go s.globals.length hs.gc,.slice hs.co s.chans.length hs.cc,.slice hs.po s.procs.length hs.pc,.int .i64 s.last,.int .i64 s.alone,.int .i64 s.claim,.slice ht.go t.globals.length ht.gc,.slice ht.co t.chans.length ht.cc,.slice ht.po t.procs.length ht.pc,.int .i64 t.last,.int .i64 t.alone,.int .i64 t.claim,.string b]
section
variable {H:Type} {enc:TypeId × Value→H} {W:World} {base:Nat} {sp:Nat→Bool} {hd:Bool} {fuel:Nat}
set_option maxRecDepth 100000
theorem open_modelL {l:List Value} {y:DataW H × List MemPlace} (hl:l.length=7) (h:DataW.trod enc Tryd.prog W base sp hd fuel 29 l=some y) (hw:Fits 29 y.1):∃h m,l= (mCells h m).toList∧MD W.heap.size W h m:=by
 have P:=open_fits Tryd.underlying29 h hw;obtain ⟨n0,y0,p0,w0⟩:=P 0 _ rfl;obtain ⟨n1,y1,p1,w1⟩:=P 1 _ rfl;obtain ⟨n2,y2,p2,w2⟩:=P 2 _ rfl;obtain ⟨n3,y3,p3,w3⟩:=P 3 _ rfl;obtain ⟨n4,y4,p4,w4⟩:=P 4 _ rfl;obtain ⟨n5,y5,p5,w5⟩:=P 5 _ rfl;obtain ⟨n6,y6,p6,w6⟩:=P 6 _ rfl;clear P;obtain ⟨o0,l0,c0,e0,r0⟩:=open_sli Tryd.underlying22 (kk:=2) (by kernel_rfl) (by decide) (bb:=16) (by kernel_rfl) (by decide) opens_ty p0 w0;obtain ⟨o1,l1,c1,e1,r1⟩:=open_sli Tryd.underlying23 c_int64.1 (by decide) c_int64.2 (by decide) (opens_int Tryd.underlying2) p1 w1;obtain ⟨o2,l2,c2,e2,r2⟩:=open_sli Tryd.underlying24 (kk:=2) (by kernel_rfl) (by decide) (bb:=32) (by kernel_rfl) (by decide) opens_shape p2 w2;obtain ⟨o3,l3,c3,e3,r3⟩:=open_sli Tryd.underlying25 c_int.1 (by decide) c_int.2 (by decide) (opens_int Tryd.underlying3) p3 w3;obtain ⟨o4,l4,c4,e4,r4⟩:=open_sli Tryd.underlying26 (kk:=10) (by kernel_rfl) (by decide) (bb:=136) (by kernel_rfl) (by decide) opens_proc p4 w4;obtain ⟨v5,e5,_,_⟩:=DataW.trod_int Tryd.underlying3 p5;obtain ⟨o6,l6,c6,e6,r6⟩:=open_sli Tryd.underlying27 (kk:=12) (by kernel_rfl) (by decide) (bb:=144) (by kernel_rfl) (by decide) opens_expr p6 w6;have f0:=(one_cs (l:=l) (o:=0) (by omega) (by kernel_rfl)).symm.trans e0;have f1:=(one_cs (l:=l) (o:=1) (by omega) (by kernel_rfl)).symm.trans e1;have f2:=(one_cs (l:=l) (o:=2) (by omega) (by kernel_rfl)).symm.trans e2;have f3:=(one_cs (l:=l) (o:=3) (by omega) (by kernel_rfl)).symm.trans e3;have f4:=(one_cs (l:=l) (o:=4) (by omega) (by kernel_rfl)).symm.trans e4;have f5:=(one_cs (l:=l) (o:=5) (by omega) (by kernel_rfl)).symm.trans e5;have f6:=(one_cs (l:=l) (o:=6) (by omega) (by kernel_rfl)).symm.trans e6;clear e0 e1 e2 e3 e4 e5 e6 p0 p1 p2 p3 p4 p5 p6 w0 w1 w2 w3 w4 w5 w6 h hw;obtain ⟨a0,a1,a2,a3,a4,a5,a6,rfl⟩:=seven_of hl;simp only [List.getElem_cons_zero,List.getElem_cons_succ,List.cons.injEq,and_true] at f0 f1 f2 f3 f4 f5 f6;subst f0 f1 f2 f3 f4 f5 f6;exact ⟨⟨o0,c0,o1,c1,o2,c2,o3,c3,o4,c4,o6,c6⟩,⟨l0,l1,l2,l3,l4,v5,l6⟩,rfl,r0,r1,r2,r3,r4,r6⟩
theorem open_bulk {t:TypeId} {fs:Array Field} {ds:List Value} {m:Nat} {y:DataW H × List MemPlace} (hs:Tryd.prog.underlying t=some (.struct fs)) (h:DataW.trod enc Tryd.prog W base sp hd m t ds=some y):
 ∀ (j:Nat) (f:Field),fs[j]? =some f→∃n y',DataW.trod enc Tryd.prog W base sp hd n f.type ((ds.drop f.offset).take (Tryd.prog.cellsOf f.type))=some y'∧Rows.uptoBulk y'.1≤Rows.uptoBulk y.1:=by
 obtain ⟨xs,n,_,rfl,hl,hlen,hf⟩:=DataW.trod_struct hs h;intro j f hj;have hjl:j < fs.size:=(Array.getElem?_eq_some_iff.1 hj).1;have hx:xs[j]? =some (xs[j]'(by omega)):=List.getElem?_eq_getElem (by omega);refine ⟨n,xs[j]'(by omega),(hf j f hj).trans hx, ?_⟩;have:=bulks.part_le (H:=H) (d:=(xs[j]'(by omega)).1) (l:=xs.map (·.1)) (List.mem_map.2 ⟨_,List.getElem_mem _,rfl⟩);simp only [Rows.uptoBulk];omega
theorem open_back {v:Value} {r:Reach} {b0:Nat} {d:DataW H} {p:List MemPlace} (hv:Value.okWide Tryd.prog W r b0 35 v) (h:DataW.Trod enc Tryd.prog W base sp hd 35 v d p) (hw:Fits 35 d) (hk:Rows.uptoBulk d≤1048576):
 ∃h m hs s ht t b,v= .agg (bCells h m hs s ht t b)∧MD W.heap.size W h m∧SD W.heap.size W hs s∧SD W.heap.size W ht t∧b.size≤1048576:=by
 obtain ⟨cs,rfl,hsz⟩:=okWide_struct Tryd.underlying35 hv;obtain ⟨l⟩:=cs;have hC:Tryd.prog.cellsOf 35=20:=by kernel_rfl
 have hl:l.length=20:=hsz.trans hC;obtain ⟨fu,hf⟩:=h;have P:=open_fits Tryd.underlying35 hf hw;obtain ⟨n0,y0,p0,w0⟩:=P 0 _ rfl;obtain ⟨n1,y1,p1,w1⟩:=P 1 _ rfl;obtain ⟨n2,y2,p2,w2⟩:=P 2 _ rfl;obtain ⟨n3,y3,p3,b3⟩:=open_bulk Tryd.underlying35 hf 3 _ rfl;clear P;have q0: (l.drop 0).take 7= (l.drop 0).take (Tryd.prog.cellsOf 29):=by rw [show Tryd.prog.cellsOf 29=7 by kernel_rfl]
 have q1: (l.drop 7).take 6= (l.drop 7).take (Tryd.prog.cellsOf 33):=by rw [show Tryd.prog.cellsOf 33=6 by kernel_rfl]
 have q2: (l.drop 13).take 6= (l.drop 13).take (Tryd.prog.cellsOf 33):=by rw [show Tryd.prog.cellsOf 33=6 by kernel_rfl]
 obtain ⟨h1,m,e0,r0⟩:=open_modelL (l:=(l.drop 0).take 7) (by rw [List.length_take,List.length_drop];omega) (by rw [q0];exact p0) w0;obtain ⟨h2,s,e1,r1⟩:=open_stateL (l:=(l.drop 7).take 6) (by rw [List.length_take,List.length_drop];omega) (by rw [q1];exact p1) w1;obtain ⟨h3,t,e2,r2⟩:=open_stateL (l:=(l.drop 13).take 6) (by rw [List.length_take,List.length_drop];omega) (by rw [q2];exact p2) w2;obtain ⟨b,e3,hy3,hb3⟩:=DataW.trod_string Tryd.underlying9 p3;have hbl:b.size≤1048576:=by
  have h4:=bulks.string_le (H:=H) b.data.toList;rw [hy3] at b3;have h5:b.data.toList.length=b.size:=rfl;simp only at b3;omega
 have f3:=(one_cs (l:=l) (o:=19) (by omega) (by kernel_rfl)).symm.trans e3;refine ⟨h1,m,h2,s,h3,t,b, ?_,r0,r1,r2,hbl⟩;have hd0:l= (l.drop 0).take 7 ++ ((l.drop 7).take 6 ++ ((l.drop 13).take 6 ++ [l[19]])):=by
  have g0: (l.drop 0).take 7 ++ l.drop 7=l:=by rw [List.drop_zero,List.take_append_drop]
  have g1: (l.drop 7).take 6 ++ l.drop 13=l.drop 7:=by
   have:=List.take_append_drop 6 (l.drop 7);rw [List.drop_drop] at this;exact this
  have g2: (l.drop 13).take 6 ++ l.drop 19=l.drop 13:=by
   have:=List.take_append_drop 6 (l.drop 13);rw [List.drop_drop] at this;exact this
  have g3:l.drop 19= [l[19]]:=by
   rw [List.drop_eq_getElem_cons (by omega:19 < l.length),List.drop_eq_nil_of_le (by omega)]
  rw [←g3,g2,g1,g0]
 rw [e0,e1,e2,f3] at hd0;rw [hd0];rfl
end
end Go.Proofs.YtnoibjahliafpaaDoor
namespace Go.Proofs.YtnoibjahliafpaaDoor
open Go.ChangeShapes Go.WideShapes Go.ChangeAt Go.RowKit
set_option maxRecDepth 100000 in
set_option maxHeartbeats 4000000 in
theorem backWalk {h:MH} {m:ModelD} {hs ht:SH} {s t:StateD} (b:List UInt8) (w:World) (hmd:MD w.heap.size w h m) (hsd:SD w.heap.size w hs s) (htd:SD w.heap.size w ht t) (hbl:b.length≤4294967281) (htw:TabW w):Calls Tryd.prog 3 #[.agg (bCells h m hs s ht t ⟨b.toArray⟩)] w fun e w'=>e= .returned (.bool true)∧Below w.heap.size w w':=by
 obtain ⟨BS,hBS⟩:∃c,c=bCells h m hs s ht t ⟨b.toArray⟩:=⟨_,rfl⟩;have HBS:=Lib.hid hBS;rw [←hBS];have HK0:Hid (Bq w w.heap.size BS 35 (w.alloc (.cells BS 35))):=Lib.hid (Bq.new (Below.refl _ _) _ _);have HMD:Hid (∀W,Below w.heap.size w W→MD w.heap.size W h m):=Lib.hid fun W hb=>hmd.below hb
 have HSD:Hid (∀W,Below w.heap.size w W→SD w.heap.size W hs s):=Lib.hid fun W hb=>hsd.below hb
 have HTD:Hid (∀W,Below w.heap.size w W→SD w.heap.size W ht t):=Lib.hid fun W hb=>htd.below hb
 have HTW:=Lib.hid htw;clear hBS hmd hsd htd htw;go_enter Tryd.func3,Tryd.ntmps3;go_upto_region 1 with fail
 generalize w.alloc (.cells BS 35)=W0 at HK0 ⊢;have c0:W0.cell? ⟨w.heap.size,0,none⟩=some (.slice h.go m.globals.length h.gc):=HK0.out.cell (by rw [HBS.out];rfl);have c1:W0.cell? ⟨w.heap.size,1,none⟩=some (.slice h.io m.init.length h.ic):=HK0.out.cell (by rw [HBS.out];rfl);have c2:W0.cell? ⟨w.heap.size,2,none⟩=some (.slice h.so m.shapes.length h.sc):=HK0.out.cell (by rw [HBS.out];rfl);have c3:W0.cell? ⟨w.heap.size,3,none⟩=some (.slice h.co m.chans.length h.cc):=HK0.out.cell (by rw [HBS.out];rfl);have c4:W0.cell? ⟨w.heap.size,4,none⟩=some (.slice h.po m.procs.length h.pc):=HK0.out.cell (by rw [HBS.out];rfl);have c5:W0.cell? ⟨w.heap.size,5,none⟩=some (.int .i64 m.claim):=HK0.out.cell (by rw [HBS.out];rfl);have c6:W0.cell? ⟨w.heap.size,6,none⟩=some (.slice h.eo m.exprs.length h.ec):=HK0.out.cell (by rw [HBS.out];rfl);go_upto_region 2 with fail
 clear c0 c1 c2 c3 c4 c5 c6;have HM1:Hid (Mx w W0.heap.size (mCells h m) h m (W0.alloc (.cells #[.slice h.go m.globals.length h.gc,.slice h.io m.init.length h.ic,.slice h.so m.shapes.length h.sc,.slice h.co m.chans.length h.cc,.slice h.po m.procs.length h.pc,.int .i64 m.claim,.slice h.eo m.exprs.length h.ec] 29))):=Lib.hid ⟨rfl,Bq.new HK0.out.bel _ _,HMD.out _ (HK0.out.bel.alloc HK0.out.bel.size _)⟩;have HK1:=Lib.hid (HK0.out.below (ball (.cells #[.slice h.go m.globals.length h.gc,.slice h.io m.init.length h.ic,.slice h.so m.shapes.length h.sc,.slice h.co m.chans.length h.cc,.slice h.po m.procs.length h.pc,.int .i64 m.claim,.slice h.eo m.exprs.length h.ec] 29)));obtain ⟨T0,hT0⟩:∃T,W0.heap.size=T:=⟨_,rfl⟩;rw [hT0] at HM1
 try rw [hT0]
 clear hT0 HK0 HMD;generalize W0.alloc (.cells #[.slice h.go m.globals.length h.gc,.slice h.io m.init.length h.ic,.slice h.so m.shapes.length h.sc,.slice h.co m.chans.length h.cc,.slice h.po m.procs.length h.pc,.int .i64 m.claim,.slice h.eo m.exprs.length h.ec] 29)=W1 at HM1 HK1 ⊢;have c7:W1.cell? ⟨w.heap.size,7,none⟩=some (.slice hs.go s.globals.length hs.gc):=HK1.out.cell (by rw [HBS.out];rfl);have c8:W1.cell? ⟨w.heap.size,8,none⟩=some (.slice hs.co s.chans.length hs.cc):=HK1.out.cell (by rw [HBS.out];rfl);have c9:W1.cell? ⟨w.heap.size,9,none⟩=some (.slice hs.po s.procs.length hs.pc):=HK1.out.cell (by rw [HBS.out];rfl);have c10:W1.cell? ⟨w.heap.size,10,none⟩=some (.int .i64 s.last):=HK1.out.cell (by rw [HBS.out];rfl);have c11:W1.cell? ⟨w.heap.size,11,none⟩=some (.int .i64 s.alone):=HK1.out.cell (by rw [HBS.out];rfl);have c12:W1.cell? ⟨w.heap.size,12,none⟩=some (.int .i64 s.claim):=HK1.out.cell (by rw [HBS.out];rfl);go_upto_region 3 with fail
 clear c7 c8 c9 c10 c11 c12;have HS2:Hid (Stb W1.heap.size w.heap.size hs s (W1.alloc (.cells #[.slice hs.go s.globals.length hs.gc,.slice hs.co s.chans.length hs.cc,.slice hs.po s.procs.length hs.pc,.int .i64 s.last,.int .i64 s.alone,.int .i64 s.claim] 33))):=Lib.hid ⟨heap_alloc_new _ _,(HK1.out.bel.alloc HK1.out.bel.size _).size,HSD.out _ (HK1.out.bel.alloc HK1.out.bel.size _)⟩;have HK2:=Lib.hid (HK1.out.below (ball (.cells #[.slice hs.go s.globals.length hs.gc,.slice hs.co s.chans.length hs.cc,.slice hs.po s.procs.length hs.pc,.int .i64 s.last,.int .i64 s.alone,.int .i64 s.claim] 33)));have HM2:=Lib.hid (HM1.out.below (ball (.cells #[.slice hs.go s.globals.length hs.gc,.slice hs.co s.chans.length hs.cc,.slice hs.po s.procs.length hs.pc,.int .i64 s.last,.int .i64 s.alone,.int .i64 s.claim] 33)));obtain ⟨T1,hT1⟩:∃T,W1.heap.size=T:=⟨_,rfl⟩;rw [hT1] at HS2
 try rw [hT1]
 clear hT1 HK1 HM1 HSD;generalize W1.alloc (.cells #[.slice hs.go s.globals.length hs.gc,.slice hs.co s.chans.length hs.cc,.slice hs.po s.procs.length hs.pc,.int .i64 s.last,.int .i64 s.alone,.int .i64 s.claim] 33)=W2 at HM2 HK2 HS2 ⊢;have c13:W2.cell? ⟨w.heap.size,13,none⟩=some (.slice ht.go t.globals.length ht.gc):=HK2.out.cell (by rw [HBS.out];rfl);have c14:W2.cell? ⟨w.heap.size,14,none⟩=some (.slice ht.co t.chans.length ht.cc):=HK2.out.cell (by rw [HBS.out];rfl);have c15:W2.cell? ⟨w.heap.size,15,none⟩=some (.slice ht.po t.procs.length ht.pc):=HK2.out.cell (by rw [HBS.out];rfl);have c16:W2.cell? ⟨w.heap.size,16,none⟩=some (.int .i64 t.last):=HK2.out.cell (by rw [HBS.out];rfl);have c17:W2.cell? ⟨w.heap.size,17,none⟩=some (.int .i64 t.alone):=HK2.out.cell (by rw [HBS.out];rfl);have c18:W2.cell? ⟨w.heap.size,18,none⟩=some (.int .i64 t.claim):=HK2.out.cell (by rw [HBS.out];rfl);go_upto_region 4 with fail
 clear c13 c14 c15 c16 c17 c18;have HZ3:Hid (Stb W2.heap.size w.heap.size ht t (W2.alloc (.cells #[.slice ht.go t.globals.length ht.gc,.slice ht.co t.chans.length ht.cc,.slice ht.po t.procs.length ht.pc,.int .i64 t.last,.int .i64 t.alone,.int .i64 t.claim] 33))):=Lib.hid ⟨heap_alloc_new _ _,(HK2.out.bel.alloc HK2.out.bel.size _).size,HTD.out _ (HK2.out.bel.alloc HK2.out.bel.size _)⟩;have HK3:=Lib.hid (HK2.out.below (ball (.cells #[.slice ht.go t.globals.length ht.gc,.slice ht.co t.chans.length ht.cc,.slice ht.po t.procs.length ht.pc,.int .i64 t.last,.int .i64 t.alone,.int .i64 t.claim] 33)));have HM3:=Lib.hid (HM2.out.below (ball (.cells #[.slice ht.go t.globals.length ht.gc,.slice ht.co t.chans.length ht.cc,.slice ht.po t.procs.length ht.pc,.int .i64 t.last,.int .i64 t.alone,.int .i64 t.claim] 33)));have HS3:=Lib.hid (HS2.out.below (ball (.cells #[.slice ht.go t.globals.length ht.gc,.slice ht.co t.chans.length ht.cc,.slice ht.po t.procs.length ht.pc,.int .i64 t.last,.int .i64 t.alone,.int .i64 t.claim] 33)));obtain ⟨T2,hT2⟩:∃T,W2.heap.size=T:=⟨_,rfl⟩;rw [hT2] at HZ3
 try rw [hT2]
 clear hT2 HK2 HM2 HS2 HTD;generalize W2.alloc (.cells #[.slice ht.go t.globals.length ht.gc,.slice ht.co t.chans.length ht.cc,.slice ht.po t.procs.length ht.pc,.int .i64 t.last,.int .i64 t.alone,.int .i64 t.claim] 33)=W3 at HM3 HK3 HS3 HZ3 ⊢;have c19:W3.cell? ⟨w.heap.size,19,none⟩=some (.string ⟨b.toArray⟩):=HK3.out.cell (by rw [HBS.out];rfl);go_wp2_with fail;clear c19 HK3 HBS;refine (shownC W3 (HTW.out.below HM3.out.bx.bel)).mono ?_;rintro e W4 ⟨rfl,hb⟩;have HM4:=Lib.hid (HM3.out.below hb);have HS4:=Lib.hid (HS3.out.below hb);have HZ4:=Lib.hid (HZ3.out.below hb);clear hb HM3 HS3 HZ3;obtain ⟨a1,ha1⟩:∃x,encT m s=x:=⟨_,rfl⟩;obtain ⟨e1,he1⟩:∃x,stateE m s=x:=⟨_,rfl⟩;obtain ⟨a2,ha2⟩:∃x,encT m t=x:=⟨_,rfl⟩;obtain ⟨e2,he2⟩:∃x,stateE m t=x:=⟨_,rfl⟩;have HE:=Lib.hid (encodeC W4 HM4.out.here HS4.out.here (HTW.out.below HM4.out.bx.bel));rw [ha1,he1] at HE;go_wp2_with (first | (refine wpList_load_row rfl _ _ rfl T0 rfl _ (mCells h m) _ _ HM4.out.bx.box Tryd.underlying29 rfl HM4.out.info ?_) | (refine wpList_load_row rfl _ _ rfl T1 rfl _ (sCells hs s) _ _ HS4.out.box Tryd.underlying33 rfl (st_info _ _) ?_));refine HE.out.mono ?_;rintro e W5 ⟨rfl,hb⟩;have HM5:=Lib.hid (HM4.out.below hb);have HS5:=Lib.hid (HS4.out.below hb);have HZ5:=Lib.hid (HZ4.out.below hb);clear hb HM4 HS4 HZ4 HE;have HE:=Lib.hid (encodeC W5 HM5.out.here HZ5.out.here (HTW.out.below HM5.out.bx.bel));rw [ha2,he2] at HE;go_wp2_with (first | (refine wpList_load_row rfl _ _ rfl T0 rfl _ (mCells h m) _ _ HM5.out.bx.box Tryd.underlying29 rfl HM5.out.info ?_) | (refine wpList_load_row rfl _ _ rfl T2 rfl _ (sCells ht t) _ _ HZ5.out.box Tryd.underlying33 rfl (st_info _ _) ?_));refine HE.out.mono ?_;rintro e W6 ⟨rfl,hb⟩;have HM6:=Lib.hid (HM5.out.below hb);have HS6:=Lib.hid (HS5.out.below hb);have HZ6:=Lib.hid (HZ5.out.below hb);have HA1:=Lib.hid (And.intro ha1 he1);have HA2:=Lib.hid (And.intro ha2 he2);clear hb HM5 HS5 HZ5 HE ha1 he1 ha2 he2
 go_upto_if 42 with fail
 go_cut [12,13,14] from 42 to 57 (fun v12 v13 v14 W'=>Hid (Below W6.heap.size W6 W'))
 case first=>
  by_cases h0:e1=0;rotate_left
  · have hq: (e1 == 0)=false:=by simpa using h0
    clear h0;go_wp2_with fail;go_meet;exact Lib.hid (Below.refl _ _)
  have hq: (e1 == 0)=true:=by simpa using h0
  have HR:=Lib.hid (back_read (HA1.out.2.trans h0));rw [HA1.out.1] at HR;clear h0;go_wp2_with (refine wpList_load_row rfl _ _ rfl T0 rfl _ (mCells h m) _ _ HM6.out.bx.box Tryd.underlying29 rfl HM6.out.info ?_);refine (decodeC a1 W6 HM6.out.here HR.out.2.2 (HTW.out.below HM6.out.bx.bel)).mono ?_;rintro e W7 ⟨hx,rfl,hsd7,hb⟩;rw [HR.out.2.1] at hsd7 ⊢;rw [HR.out.1];have HX7:=Lib.hid (Stb.new hsd7);have HS7:=Lib.hid ((HS6.out.below hb).below (ball (.cells (sCells hx s) 33)));have HB7:Hid (Below W6.heap.size W6 (W7.alloc (.cells (sCells hx s) 33))):=Lib.hid (hb.alloc hb.size _);clear hb hsd7 HR;unfold sCells at HX7 HS7 HB7;unfold sV sCells;go_upto_region 10 with fail
  obtain ⟨T3,hT3⟩:∃T,W7.heap.size=T:=⟨_,rfl⟩;rw [hT3] at HX7
  try rw [hT3]
  clear hT3;generalize W7.alloc (.cells #[.slice hx.go s.globals.length hx.gc,.slice hx.co s.chans.length hx.cc,.slice hx.po s.procs.length hx.pc,.int .i64 s.last,.int .i64 s.alone,.int .i64 s.claim] 33)=W8 at HX7 HS7 HB7 ⊢;have HSM:=Lib.hid (same12H s s hx hs W8 (Nat.le_refl _) HX7.out.here HS7.out.here);rw [sameB_yes rfl] at HSM;go_wp2_with (first | (refine wpList_load_row rfl _ _ rfl T3 rfl _ (sCells hx s) _ _ HX7.out.box Tryd.underlying33 rfl (st_info _ _) ?_) | (refine wpList_load_row rfl _ _ rfl T1 rfl _ (sCells hs s) _ _ HS7.out.box Tryd.underlying33 rfl (st_info _ _) ?_));refine HSM.out.mono ?_;rintro e W9 ⟨rfl,hb⟩;have HB9:=Lib.hid (HB7.out.trans (hb.mono HB7.out.size));clear hb HSM HX7 HS7 HB7;go_wp2_with fail;go_meet;exact HB9
 case rest=>
 rename World=>Wr
 have HM7:=Lib.hid (HM6.out.below hcut.out);have HS7:=Lib.hid (HS6.out.below hcut.out);have HZ7:=Lib.hid (HZ6.out.below hcut.out);clear hcut HM6 HS6 HZ6;go_upto_region 13 with fail
 go_cut [63] from 58 to 63 (fun v63 W'=>v63= .bool (decide (e1=0∧e2=0))∧W'=Wr)
 case first=>
  by_cases h1:e1=0
  · have q1: (e1 == 0)=true:=by simpa using h1
    by_cases h2:e2=0
    · have q2: (e2 == 0)=true:=by simpa using h2
      have HD:Hid (decide (e1=0∧e2=0)=true):=Lib.hid (decide_eq_true (And.intro h1 h2));clear h1 h2;go_wp2_with fail;go_meet;exact ⟨by rw [HD.out],rfl⟩
    · have q2: (e2 == 0)=false:=by simpa using h2
      have HD:Hid (decide (e1=0∧e2=0)=false):=Lib.hid (decide_eq_false (fun h=>h2 h.2));clear h1 h2;go_wp2_with fail;go_meet;exact ⟨by rw [HD.out],rfl⟩
  · have q1: (e1 == 0)=false:=by simpa using h1
    have HD:Hid (decide (e1=0∧e2=0)=false):=Lib.hid (decide_eq_false (fun h=>h1 h.1));clear h1;go_wp2_with fail;go_meet;exact ⟨by rw [HD.out],rfl⟩
 case rest=>
 obtain ⟨rfl,hcw⟩:=hcut;subst hcw;obtain ⟨x3,hx3⟩:∃x,decide (e1=0∧e2=0)=x:=⟨_,rfl⟩;rw [hx3];have HX3:=Lib.hid hx3;clear hx3
 go_upto_if 63 with fail
 go_cut [15] from 63 to 71 (fun v15 W'=>Hid (Below wc.heap.size wc W'))
 case first=>
  cases x3
  · go_wp2_with fail;go_meet;exact Lib.hid (Below.refl _ _)
  have h0:e1=0∧e2=0:=of_decide_eq_true HX3.out;have HSM:=Lib.hid (same12H s t hs ht wc (Nat.le_refl _) HS7.out.here HZ7.out.here);rw [back_same (HA1.out.2.trans h0.1) (HA2.out.2.trans h0.2),HA1.out.1,HA2.out.1] at HSM;obtain ⟨x,hx⟩:∃x,decide (a1=a2)=x:=⟨_,rfl⟩;rw [hx] at HSM;clear h0;go_wp2_with (first | (refine wpList_load_row rfl _ _ rfl T1 rfl _ (sCells hs s) _ _ HS7.out.box Tryd.underlying33 rfl (st_info _ _) ?_) | (refine wpList_load_row rfl _ _ rfl T2 rfl _ (sCells ht t) _ _ HZ7.out.box Tryd.underlying33 rfl (st_info _ _) ?_));refine HSM.out.mono ?_;rintro e W9 ⟨rfl,hb⟩;have HB9:=Lib.hid hb;clear hb HSM HS7 HZ7;have hs1: (a1 == a2)=x:=by rw [←hx];by_cases h:a1=a2 <;> simp [h]
  have hxx: (x == x)=true:=by simp
  clear hx;go_wp2_with fail;go_meet;exact HB9
 case rest=>
 rename World=>Wv
 have HM8:=Lib.hid (HM7.out.below hcut.out);clear hcut HM7 HS7 HZ7;go_wp2_with (refine wpList_load_row rfl _ _ rfl T0 rfl _ (mCells h m) _ _ HM8.out.bx.box Tryd.underlying29 rfl HM8.out.info ?_);refine (decodeC b Wv HM8.out.here hbl (HTW.out.below HM8.out.bx.bel)).mono ?_;rintro e W10 ⟨hy,rfl,hsd10,hb⟩;obtain ⟨x4,hx4⟩:∃x,decS m b=x:=⟨_,rfl⟩;obtain ⟨g,hg⟩:∃x,decE m b=x:=⟨_,rfl⟩;rw [hx4] at hsd10;rw [hx4,hg];have HXG:=Lib.hid (And.intro hx4 hg);have HY:=Lib.hid (Stb.new hsd10);have HM10:=Lib.hid ((HM8.out.below hb).below (ball (.cells (sCells hy x4) 33)));clear hb hsd10 hx4 hg HM8;unfold sCells at HY HM10;unfold sV sCells;go_upto_region 18 with fail
 obtain ⟨T5,hT5⟩:∃T,W10.heap.size=T:=⟨_,rfl⟩;rw [hT5] at HY
 try rw [hT5]
 clear hT5;generalize W10.alloc (.cells #[.slice hy.go x4.globals.length hy.gc,.slice hy.co x4.chans.length hy.cc,.slice hy.po x4.procs.length hy.pc,.int .i64 x4.last,.int .i64 x4.alone,.int .i64 x4.claim] 33)=W11 at HY HM10 ⊢;by_cases h0:g=0;rotate_left
 · have hq: (g == 0)=false:=by simpa using h0
   clear h0;go_wp2_with fail;go_ret;exact ⟨rfl,HM10.out.bx.bel⟩
 have hq: (g == 0)=true:=by simpa using h0
 have HW:=Lib.hid (back_write (HXG.out.2.trans h0));rw [HXG.out.1] at HW;have HE:=Lib.hid (encodeC W11 HM10.out.here HY.out.here (HTW.out.below HM10.out.bx.bel));rw [HW.out.1,HW.out.2] at HE;clear h0;go_wp2_with (first | (refine wpList_load_row rfl _ _ rfl T0 rfl _ (mCells h m) _ _ HM10.out.bx.box Tryd.underlying29 rfl HM10.out.info ?_) | (refine wpList_load_row rfl _ _ rfl T5 rfl _ (sCells hy x4) _ _ HY.out.box Tryd.underlying33 rfl (st_info _ _) ?_));refine HE.out.mono ?_;rintro e W12 ⟨rfl,hb⟩;have HB12:=Lib.hid (HM10.out.bx.bel.trans (hb.mono HM10.out.bx.bel.size));have hbb: (b == b)=true:=by simp
 clear hb HE HM10 HY;go_wp2_with fail;go_ret;exact ⟨rfl,HB12.out⟩
end Go.Proofs.YtnoibjahliafpaaDoor
