/- The document's Eval, kind by kind. -/
import Derived.Test.YtbhgdlfndamklaaGreatDoorS39
import Derived.Test.YtbhgdlfndamklaaGreatDoorS16
import Derived.Test.YtbhgdlfndamklaaGreatDoorS40
import Derived.Test.YtbhgdlfndamklaaGreatDoorS20
import Derived.Test.YtbhgdlfndamklaaGreatDoorS14
set_option linter.unusedVariables false
set_option linter.unusedSimpArgs false
namespace Go.Proofs.YtbhgdlfndamklaaGreatDoor
open Go.ChangeShapes Go.WideShapes Go.ChangeAt Go.RowKit
set_option maxRecDepth 100000 in
set_option maxHeartbeats 4000000 in
theorem e14_two {h:MH} {hs:SH} {ao:Option Addr} {ac:Nat} {E:EnvD} {ev:Int→Int × Int} {p:Nat} {x:ExprD} (w:World) (hd:ED w.heap.size w h hs ao E) (hok:Ok E) (he:EvH h hs ao ac E ev p) (hx:E.m.exprs[p]? =some x) (hop:6≤x.op∧x.op≤21) (ha:0≤x.a∧x.a < p) (hb:0≤x.b∧x.b < p):
 Calls Tryz.prog 9 #[.agg (eCells h hs ao ac E),.int .i64 p] w fun e w'=>e= .returned (.tuple #[.int .i64 (evalB E ev x).1,.int .i64 (evalB E ev x).2])∧Below w.heap.size w w':=by
 have HE:=Lib.hid he;have HO:=Lib.hid hok;have HXG:=Lib.hid hx;have HV:=Lib.hid (evalB_two (E:=E) (ev:=ev) hop);have HA:=Lib.hid ha;have HB:=Lib.hid hb;clear ha hb;obtain ⟨R,hR⟩:∃R,evalB E ev x=R:=⟨_,rfl⟩;rw [hR] at HV ⊢;clear hR;have hel:=hd.md.exprs.1;have hpl:p < E.m.exprs.length:=(List.getElem?_eq_some_iff.1 hx).1;have hpi: (p:Int) < E.m.exprs.length:=by omega
 have hp0: (0:Int)≤p:=by omega
 obtain ⟨ES,hES⟩:∃c,c=eCells h hs ao ac E:=⟨_,rfl⟩;have HES:=Lib.hid hES;have HX0:=Lib.hid (Zs.new hd hES);rw [←hES];obtain ⟨g,off,ho,hg,hea⟩:=hd.md.exprs.get hx;obtain ⟨vo,vc,xo,xc,mo,mc,hxc,hr1,hr2,hr3⟩:=(hea.below (Below.refl _ _) hg).xc;have HXC:=Lib.hid (hxc.below hg (ball (.cells ES 36)));have HR2:=Lib.hid hr2;have HR3:=Lib.hid hr3;have HX:Hid (Zx w ES (xCells x vo xo mo vc xc mc) h hs ao ac E ((w.alloc (.cells ES 36)).alloc (.cells (xCells x vo xo mo vc xc mc) 73))):=Lib.hid (Zx.new hd hES);unfold xCells at HX;have c6: (w.alloc (.cells ES 36)).cell? ⟨w.heap.size,6,none⟩=some (.slice h.eo E.m.exprs.length h.ec):=HX0.out.cell rfl;rw [ho] at c6;have e0:=HXC.out.c0;have e1:=HXC.out.c1;have e2:=HXC.out.c2;have e3:=HXC.out.c3;have e4:=HXC.out.c4;have e5:=HXC.out.v0;have e6:=HXC.out.v1;have e7:=HXC.out.v2;have e8:=HXC.out.v3;have e9:=HXC.out.v4;have e10:=HXC.out.c6;have e11:=HXC.out.c7;have lxa:=hr2.1;have lxm:=hr3.1;have lxd:=hr1.1;have HOP:=Lib.hid hop;clear hd hok he hx hES ho hea hxc hr1 hr2 hr3 HXC HX0 hop;go_enter Tryz.func9,Tryz.ntmps9;go_upto_region 2 with fail
 generalize (w.alloc (.cells ES 36)).alloc (.cells #[.int .i64 x.op,.int .i64 x.n,.int .i64 x.a,.int .i64 x.b,.int .i64 x.c,.int .i64 x.v.scope,.int .i64 x.v.slot,.int .i64 x.v.who,.int .i64 x.v.type,.slice vo x.v.dims.length vc,.slice xo x.args.length xc,.slice mo x.mat.length mc] 73)=W1 at HX ⊢;clear c6 e0 e1 e2 e3 e4 e5 e6 e7 e8 e9 e10 e11 hg;obtain ⟨XS,hXS⟩:∃c:Array Value,c= #[.int .i64 x.op,.int .i64 x.n,.int .i64 x.a,.int .i64 x.b,.int .i64 x.c,.int .i64 x.v.scope,.int .i64 x.v.slot,.int .i64 x.v.who,.int .i64 x.v.type,.slice vo x.v.dims.length vc,.slice xo x.args.length xc,.slice mo x.mat.length mc]:=⟨_,rfl⟩;rw [←hXS] at HX;have HXS:Hid (XS=xCells x vo xo mo vc xc mc):=Lib.hid hXS;have HXI:Hid ((Tryz.prog.info? 73).map (·.size)=some XS.size):=Lib.hid (by rw [hXS];show _=some 12;kernel_rfl);clear hXS;have x0:W1.cell? ⟨w.heap.size+1,0,none⟩=some (.int .i64 x.op):=HX.out.cell (by rw [HXS.out];rfl);have x2:W1.cell? ⟨w.heap.size+1,2,none⟩=some (.int .i64 x.a):=HX.out.cell (by rw [HXS.out];rfl);have hopr:=HOP.out;obtain ⟨op,ho⟩:∃o,x.op=o:=⟨_,rfl⟩;have HOO:=Lib.hid ho;rw [ho] at x0 hopr HV;clear ho;have b1: (op == 1)=false:=by rw [beq_eq_false_iff_ne];omega
 have b2: (op == 2)=false:=by rw [beq_eq_false_iff_ne];omega
 have b3: (op == 3)=false:=by rw [beq_eq_false_iff_ne];omega
 have b4: (op == 4)=false:=by rw [beq_eq_false_iff_ne];omega
 have b5: (op == 5)=false:=by rw [beq_eq_false_iff_ne];omega
 have b22: (op == 22)=false:=by rw [beq_eq_false_iff_ne];omega
 have b23: (op == 23)=false:=by rw [beq_eq_false_iff_ne];omega
 have b24: (op == 24)=false:=by rw [beq_eq_false_iff_ne];omega
 have b25: (op == 25)=false:=by rw [beq_eq_false_iff_ne];omega
 have b26: (op == 26)=false:=by rw [beq_eq_false_iff_ne];omega
 have b27: (op == 27)=false:=by rw [beq_eq_false_iff_ne];omega
 have b28: (op == 28)=false:=by rw [beq_eq_false_iff_ne];omega
 have b29: (op == 29)=false:=by rw [beq_eq_false_iff_ne];omega
 have b30: (op == 30)=false:=by rw [beq_eq_false_iff_ne];omega
 have b31: (op == 31)=false:=by rw [beq_eq_false_iff_ne];omega
 have b32: (op == 32)=false:=by rw [beq_eq_false_iff_ne];omega
 have b33: (op == 33)=false:=by rw [beq_eq_false_iff_ne];omega
 have b34: (op == 34)=false:=by rw [beq_eq_false_iff_ne];omega
 have b35: (op == 35)=false:=by rw [beq_eq_false_iff_ne];omega
 have b36: (op == 36)=false:=by rw [beq_eq_false_iff_ne];omega
 have b37: (op == 37)=false:=by rw [beq_eq_false_iff_ne];omega
 have b38: (op == 38)=false:=by rw [beq_eq_false_iff_ne];omega
 have b39: (op == 39)=false:=by rw [beq_eq_false_iff_ne];omega
 clear hopr;obtain ⟨⟨v,er⟩,hev⟩:∃q,ev x.a=q:=⟨_,rfl⟩;have HEC:=Lib.hid (HE.out.at HX.out.zs x.a HA.out.1 HA.out.2);rw [hev] at HEC HV;simp only at HEC HV;clear hev;go_wp2_with (refine wpList_load_row rfl _ _ rfl _ rfl _ ES _ _ HX.out.zs.bx.box Tryz.underlying36 rfl HX.out.zs.info ?_);refine HEC.out.mono ?_;rintro e W2 ⟨rfl,hb2⟩;have HX2:=Lib.hid (HX.out.below hb2);clear hb2 HEC HX x0 x2;by_cases z:er=0;rotate_left
 · have HE2:Hid (R= (0,er)):=Lib.hid (by rw [HV.out,if_pos z]);have d: (er != 0)=true:=by rw [bne_iff_ne];exact z
   clear z;go_wp2_with fail;go_ret2;exact ⟨ret2 (by rw [HE2.out]) (by rw [HE2.out]),HX2.out.zs.bx.bel⟩
 have d: (er != 0)=false:=by rw [bne_eq_false_iff_eq];exact z
 subst z;clear b1 b2 b3 b4 b5 b22 b23 b24 b25 b26 b27 b28 b29 b30 b31 b32 b33 b34 b35 b36 b37 b38 b39;have HV2:=Lib.hid (HV.out.trans (if_neg (by simp)));clear HV;have x3:W2.cell? ⟨w.heap.size+1,3,none⟩=some (.int .i64 x.b):=HX2.out.cell (by rw [HXS.out];rfl);obtain ⟨⟨v2,er2⟩,hev⟩:∃q,ev x.b=q:=⟨_,rfl⟩;have HEC:=Lib.hid (HE.out.at HX2.out.zs x.b HB.out.1 HB.out.2);rw [hev] at HEC HV2;simp only at HEC HV2;clear hev;go_wp2_with (refine wpList_load_row rfl _ _ rfl _ rfl _ ES _ _ HX2.out.zs.bx.box Tryz.underlying36 rfl HX2.out.zs.info ?_);refine HEC.out.mono ?_;rintro e W3 ⟨rfl,hb3⟩;have HX3:=Lib.hid (HX2.out.below hb3);clear hb3 HEC HX2 x3;by_cases z:er2=0;rotate_left
 · have HE2:Hid (R= (0,er2)):=Lib.hid (by rw [HV2.out,if_pos z]);have d2: (er2 != 0)=true:=by rw [bne_iff_ne];exact z
   clear z;go_wp2_with fail;go_ret2;exact ⟨ret2 (by rw [HE2.out]) (by rw [HE2.out]),HX3.out.zs.bx.bel⟩
 have d2: (er2 != 0)=false:=by rw [bne_eq_false_iff_eq];exact z
 subst z;have HE2:=Lib.hid (HV2.out.trans (if_neg (by simp)));have x0:W3.cell? ⟨w.heap.size+1,0,none⟩=some (.int .i64 op):=HX3.out.cell (by rw [HXS.out,←HOO.out];rfl);go_wp2_with fail;refine (val.rtwo_any _ _ _ W3).mono ?_;rintro e W4 ⟨rfl,hb4⟩;have HX4:=Lib.hid (HX3.out.below hb4);clear hb4 HX3 x0;go_wp2_with fail;go_ret2;exact ⟨ret2 (by rw [HE2.out]) (by rw [HE2.out]),HX4.out.zs.bx.bel⟩
set_option maxRecDepth 100000 in
set_option maxHeartbeats 4000000 in
theorem e14_np {h:MH} {hs:SH} {ao:Option Addr} {ac:Nat} {E:EnvD} {ev:Int→Int × Int} {p:Nat} {x:ExprD} (w:World) (hd:ED w.heap.size w h hs ao E) (hok:Ok E) (he:EvH h hs ao ac E ev p) (hx:E.m.exprs[p]? =some x) (hop:x.op=34):
 Calls Tryz.prog 9 #[.agg (eCells h hs ao ac E),.int .i64 p] w fun e w'=>e= .returned (.tuple #[.int .i64 (evalB E ev x).1,.int .i64 (evalB E ev x).2])∧Below w.heap.size w w':=by
 have HE:=Lib.hid he;have HO:=Lib.hid hok;have HXG:=Lib.hid hx;have HV:=Lib.hid (evalB_kno (E:=E) (ev:=ev) (x:=x) (by omega));obtain ⟨R,hR⟩:∃R,evalB E ev x=R:=⟨_,rfl⟩;rw [hR] at HV ⊢;clear hR;have hel:=hd.md.exprs.1;have hpl:p < E.m.exprs.length:=(List.getElem?_eq_some_iff.1 hx).1;have hpi: (p:Int) < E.m.exprs.length:=by omega
 have hp0: (0:Int)≤p:=by omega
 obtain ⟨ES,hES⟩:∃c,c=eCells h hs ao ac E:=⟨_,rfl⟩;have HES:=Lib.hid hES;have HX0:=Lib.hid (Zs.new hd hES);rw [←hES];obtain ⟨g,off,ho,hg,hea⟩:=hd.md.exprs.get hx;obtain ⟨vo,vc,xo,xc,mo,mc,hxc,hr1,hr2,hr3⟩:=(hea.below (Below.refl _ _) hg).xc;have HXC:=Lib.hid (hxc.below hg (ball (.cells ES 36)));have HR2:=Lib.hid hr2;have HR3:=Lib.hid hr3;have HX:Hid (Zx w ES (xCells x vo xo mo vc xc mc) h hs ao ac E ((w.alloc (.cells ES 36)).alloc (.cells (xCells x vo xo mo vc xc mc) 73))):=Lib.hid (Zx.new hd hES);unfold xCells at HX;have c6: (w.alloc (.cells ES 36)).cell? ⟨w.heap.size,6,none⟩=some (.slice h.eo E.m.exprs.length h.ec):=HX0.out.cell rfl;rw [ho] at c6;have e0:=HXC.out.c0;have e1:=HXC.out.c1;have e2:=HXC.out.c2;have e3:=HXC.out.c3;have e4:=HXC.out.c4;have e5:=HXC.out.v0;have e6:=HXC.out.v1;have e7:=HXC.out.v2;have e8:=HXC.out.v3;have e9:=HXC.out.v4;have e10:=HXC.out.c6;have e11:=HXC.out.c7;have lxa:=hr2.1;have lxm:=hr3.1;have lxd:=hr1.1;have HOP:=Lib.hid hop;clear hd hok he hx hES ho hea hxc hr1 hr2 hr3 HXC HX0 hop;go_enter Tryz.func9,Tryz.ntmps9;go_upto_region 2 with fail
 generalize (w.alloc (.cells ES 36)).alloc (.cells #[.int .i64 x.op,.int .i64 x.n,.int .i64 x.a,.int .i64 x.b,.int .i64 x.c,.int .i64 x.v.scope,.int .i64 x.v.slot,.int .i64 x.v.who,.int .i64 x.v.type,.slice vo x.v.dims.length vc,.slice xo x.args.length xc,.slice mo x.mat.length mc] 73)=W1 at HX ⊢;clear c6 e0 e1 e2 e3 e4 e5 e6 e7 e8 e9 e10 e11 hg;obtain ⟨XS,hXS⟩:∃c:Array Value,c= #[.int .i64 x.op,.int .i64 x.n,.int .i64 x.a,.int .i64 x.b,.int .i64 x.c,.int .i64 x.v.scope,.int .i64 x.v.slot,.int .i64 x.v.who,.int .i64 x.v.type,.slice vo x.v.dims.length vc,.slice xo x.args.length xc,.slice mo x.mat.length mc]:=⟨_,rfl⟩;rw [←hXS] at HX;have HXS:Hid (XS=xCells x vo xo mo vc xc mc):=Lib.hid hXS;have HXI:Hid ((Tryz.prog.info? 73).map (·.size)=some XS.size):=Lib.hid (by rw [hXS];show _=some 12;kernel_rfl);clear hXS;have x0:W1.cell? ⟨w.heap.size+1,0,none⟩=some (.int .i64 x.op):=HX.out.cell (by rw [HXS.out];rfl);rw [HOP.out] at x0 HV;have HVV:Hid (R= (truthI (E.s.procs.all (fun p=> !inProgress E p)),0)):=Lib.hid HV.out;go_wp2_with fail
 go_loopw [14] (fun iv W=>∃i:Nat,iv= .int .i64 i∧i≤E.s.procs.length∧Hid (∀j (hj:j < E.s.procs.length),j < i→ (!inProgress E E.s.procs[j])=true)∧Hid (Zs w ES h hs ao ac E W)) (fun iv _=>E.s.procs.length - (intOf iv).toNat)
 case atStart=>exact ⟨0,rfl,by omega,Lib.hid fun j _ h=>by omega,Lib.hid HX.out.zs⟩
 case round=>
  clear x0 HX;obtain ⟨i,rfl,hi,HJ,HX⟩:=hrel;have hi0: (0:Int)≤i:=by omega
  have hpl2:=HX.out.ed.sd.procs.1;have c9:wr.cell? ⟨w.heap.size,9,none⟩=some (.slice hs.po E.s.procs.length hs.pc):=HX.out.cell rfl;by_cases hlt:i < E.s.procs.length
  · have hlti: (i:Int) < E.s.procs.length:=by omega
    obtain ⟨pr,hp⟩:∃x,E.s.procs[i]=x:=⟨_,rfl⟩;have hpq:E.s.procs[i]? =some pr:=by rw [List.getElem?_eq_getElem hlt,hp]
    obtain ⟨t,ht,ht0,ht1,hl0,hl1,-⟩:=may_proc HO.out hpq;obtain ⟨kt,hkt⟩:∃k:Nat,pr.type=k:=⟨pr.type.toNat,by omega⟩;obtain ⟨kl,hkl⟩:∃k:Nat,pr.loc=k:=⟨pr.loc.toNat,by omega⟩;have hktl: (kt:Int) < E.m.procs.length:=by omega
    have hkll: (kl:Int) < t.locs.length:=by omega
    have hkt0: (0:Int)≤kt:=by omega
    have hkl0: (0:Int)≤kl:=by omega
    obtain ⟨l,hl⟩:∃l,t.locs[kl]? =some l:=⟨_,List.getElem?_eq_getElem (by omega)⟩;have HPR:Hid (inProgress E pr=l.progress):=Lib.hid (by unfold inProgress locOf;rw [ht,hkl,Int.toNat_natCast];show ((t.locs[kl]?).map (·.progress)).getD false=_;rw [hl];rfl);rw [hkt,Int.toNat_natCast] at ht;obtain ⟨g1,off1,ho1,hg1,hpa⟩:=HX.out.ed.sd.procs.get hpq;have q0:=hpa.c0;have q1:=hpa.c1;have q2:=hpa.c2;obtain ⟨fo,fc,q3,-⟩:=hpa.frame;rw [ho1] at c9;rw [hkt] at q0;rw [hkl] at q1;have HBAD:Hid (l.progress=true→R= (0,0)):=Lib.hid fun e=>by rw [HVV.out,all_bad hlt (by rw [hp,HPR.out,e];rfl)];rfl
    have HGO:Hid (l.progress=false→∀j (hj:j < E.s.procs.length),j < i+1→ (!inProgress E E.s.procs[j])=true):=Lib.hid fun e j hj hjk=>by
     by_cases ej:j=i
     · subst ej;rw [hp,HPR.out,e];rfl
     · exact HJ.out j hj (by omega)
    have HX2:=Lib.hid (HX.out.below (ball (.cells #[.int .i64 kt,.int .i64 kl,.int .i64 pr.prio,.slice fo pr.frame.length fc] 84)));have HP2:Hid ((wr.alloc (.cells #[.int .i64 kt,.int .i64 kl,.int .i64 pr.prio,.slice fo pr.frame.length fc] 84)).heap[wr.heap.size]? =some (.cells #[.int .i64 kt,.int .i64 kl,.int .i64 pr.prio,.slice fo pr.frame.length fc] 84 (0,0))):=Lib.hid (heap_alloc_new wr _);have HT:=Lib.hid ht;have HL:=Lib.hid hl;clear hpa ho1 hp hpq ht hl hkt hkl hl0 hl1 ht0 ht1 hg1;go_upto_region 42 with fail
    obtain ⟨T,hT⟩:∃T,wr.heap.size=T:=⟨_,rfl⟩;generalize wr.alloc (.cells #[.int .i64 kt,.int .i64 kl,.int .i64 pr.prio,.slice fo pr.frame.length fc] 84)=W2 at HX2 HP2 ⊢;rw [hT] at HP2 ⊢;clear hT c9 q0 q1 q2 q3 HX;have c4:W2.cell? ⟨w.heap.size,4,none⟩=some (.slice h.po E.m.procs.length h.pc):=HX2.out.cell rfl;have hml:=HX2.out.ed.md.procs.1;obtain ⟨g2,off2,ho2,hg2,hta⟩:=HX2.out.ed.md.procs.get HT.out;obtain ⟨lo,lc,r4,hlr⟩:=hta.locs;have hll:=hlr.1;obtain ⟨g3,off3,ho3,hg3,hla⟩:=hlr.get HL.out;have r6:=hla.c6;have y0:W2.cell? ⟨T,0,none⟩=some (.int .i64 kt):=(cell_of_row _ _ _ _ _ _ HP2.out).trans rfl;have y1:W2.cell? ⟨T,1,none⟩=some (.int .i64 kl):=(cell_of_row _ _ _ _ _ _ HP2.out).trans rfl;subst ho3;rw [ho2] at c4;obtain ⟨lp,hlp⟩:∃x,l.progress=x:=⟨_,rfl⟩;rw [hlp] at r6;have HLP:=Lib.hid hlp;have HD:Hid (∀n,Zs w ES h hs ao ac E (W2.drewN n)):=Lib.hid fun n=>HX2.out.drewN n
    clear hta hla hlr ho2 hlp hg2 hg3;cases lp
    · have HZ:=Lib.hid (HGO.out HLP.out);go_quiet (fail);have HX3:=Lib.hid (HD.out nq);generalize W2.drewN nq=W3 at HX3 ⊢;clear c4 r4 r6 y0 y1 HD;go_wp2_with fail;go_roundw;case rel=>exact ⟨i+1,by go_num,by omega,HZ,HX3⟩
      case measure=>simp [intOf];omega
    · have HZ:=Lib.hid (HBAD.out HLP.out);go_quiet (fail);have HX3:=Lib.hid (HD.out nq);generalize W2.drewN nq=W3 at HX3 ⊢;clear c4 r4 r6 y0 y1 HD;go_wp2_with fail;go_ret2;exact ⟨ret2 (by rw [HZ.out]) (by rw [HZ.out]),HX3.out.bx.bel⟩
  · have hlti:¬ (i:Int) < E.s.procs.length:=by omega
    have HZ:Hid (R= (1,0)):=Lib.hid (by rw [HVV.out,all_of fun j hj=>HJ.out j hj (by omega)];rfl);go_wp2_with fail;go_ret2;exact ⟨ret2 (by rw [HZ.out]) (by rw [HZ.out]),HX.out.bx.bel⟩
end Go.Proofs.YtbhgdlfndamklaaGreatDoor
namespace Go.Proofs.YtbhgdlfndamklaaGreatDoor
open Go.ChangeShapes Go.WideShapes Go.ChangeAt Go.RowKit
theorem evalStepH {h:MH} {hs:SH} {ao:Option Addr} {ac:Nat} {E:EnvD} {ev:Int→Int × Int} {p:Nat} {x:ExprD} (w:World) (hd:ED w.heap.size w h hs ao E) (hok:Ok E) (he:EvH h hs ao ac E ev p) (h00:∀i,(ev i).2≠0→ (ev i).1=0) (hx:E.m.exprs[p]? =some x):
 Calls Tryz.prog 9 #[.agg (eCells h hs ao ac E),.int .i64 p] w fun e w'=>e= .returned (.tuple #[.int .i64 (evalB E ev x).1,.int .i64 (evalB E ev x).2])∧Below w.heap.size w w':=by
 obtain ⟨hxb,hps⟩:=(good_ex hok).ok p x hx;unfold exprB at hxb;simp only [Bool.and_eq_true,decide_eq_true_eq] at hxb;obtain ⟨⟨hop,-⟩,hkind⟩:=hxb;have hA:1≤partsOf x.op→0≤x.a∧x.a < p:=fun h1=>hps x.a (List.mem_append_left _ (partsTakeAt (n:=0) rfl (by omega)))
 have hBB:2≤partsOf x.op→0≤x.b∧x.b < p:=fun h1=>hps x.b (List.mem_append_left _ (partsTakeAt (n:=1) rfl (by omega)))
 have hC:3≤partsOf x.op→0≤x.c∧x.c < p:=fun h1=>hps x.c (List.mem_append_left _ (partsTakeAt (n:=2) rfl (by omega)))
 by_cases h1:x.op=1
 · exact e14_num w hd hok he hx h1
 by_cases h2:x.op=2
 · have hv:varB E.m x.v=true:=by
    unfold kindB at hkind;rw [if_neg h1,if_pos h2] at hkind;exact hkind
   have hm:moreL x= (if x.v.scope=2 then [x.v.who] else []) ++ x.v.dims.map (·.i):=if_pos h2;refine e14_var w hd hok he hx h2 (VarF.of hv) (fun hsc=>hps _ (List.mem_append_right _ ?_)) (fun d hdm=>hps _ (List.mem_append_right _ ?_))
   · rw [hm,if_pos hsc];exact List.mem_append_left _ (List.mem_cons_self ..)
   · rw [hm];exact List.mem_append_right _ (List.mem_map_of_mem hdm)
 by_cases h3:3≤x.op∧x.op≤5
 · exact e14_one w hd hok he hx h3 (hA (by rw [pOf1 (.inl h3)];omega))
 by_cases h4:22≤x.op∧x.op≤24
 · by_cases h24:x.op=24
   · have e:=pOf3 h24;exact e14_cho w hd hok he hx h4 h00 (hA (by omega)) (hBB (by omega)) (fun _=>hC (by omega))
   · have e:=pOf2 (op:=x.op) (by omega);exact e14_cho w hd hok he hx h4 h00 (hA (by omega)) (hBB (by omega)) (fun h=>absurd h h24)
 by_cases h5:25≤x.op∧x.op≤29
 · exact e14_roo w hd hok he hx h5 (hA (by rw [pOf1 (by omega)];omega))
 by_cases h6:x.op=30
 · have hf:fieldsB E.m x.args x.mat=true:=by
    unfold kindB at hkind;rw [if_neg h1,if_neg h2,if_pos h6] at hkind;simp only [Bool.and_eq_true] at hkind;exact hkind.2
   unfold fieldsB at hf;simp only [Bool.and_eq_true,Bool.not_eq_true',decide_eq_false_iff_not] at hf;have hm:moreL x=x.args:=by
    unfold moreL;rw [if_neg h2,if_pos (.inl h6)]
   exact e14_pol w hd hok he hx h6 (hA (by rw [pOf1 (by omega)];omega)) (by omega) (by omega) (fun q hq=>hps _ (List.mem_append_right _ (by rw [hm];exact hq)))
 by_cases h7:31≤x.op∧x.op≤35
 · by_cases h34:x.op=34
   · exact e14_np w hd hok he hx h34
   · exact e14_kno w hd hok he hx (by omega)
 by_cases h8:36≤x.op∧x.op≤38
 · exact e14_ask w hd hok he hx h8 (hA (by rw [pOf1 (by omega)];omega))
 by_cases h9:x.op=39
 · exact e14_run w hd hok he hx h9
 have e:=pOf2 (op:=x.op) (by omega);exact e14_two w hd hok he hx (by omega) (hA (by omega)) (hBB (by omega))
theorem evalAllH {h:MH} {hs:SH} {ao:Option Addr} {ac:Nat} {E:EnvD} (hok:Ok E):∀ (f p:Nat),p < f→p < E.m.exprs.length→∀W,ED W.heap.size W h hs ao E→
 Calls Tryz.prog 9 #[.agg (eCells h hs ao ac E),.int .i64 p] W fun e W'=>e= .returned (.tuple #[.int .i64 (evalF E f p).1,.int .i64 (evalF E f p).2])∧Below W.heap.size W W'
 | 0,_,h0,_,_,_=>by omega
 | f+1,p,hp,hl,W,hk=>by
   obtain ⟨x,hx⟩:∃x,E.m.exprs[p]? =some x:=⟨_,List.getElem?_eq_getElem hl⟩;have hv:evalF E (f+1) p=evalB E (evalF E f) x:=by
    show (match E.m.exprs[((p:Int)).toNat]? with | some x=>evalB E (evalF E f) x | none=>(0,0))=_;rw [Int.toNat_natCast,hx]
   rw [hv];exact evalStepH W hk hok (fun q V h0 hq hkV=>by
    obtain ⟨k,rfl⟩:∃k:Nat,q=k:=⟨q.toNat,by omega⟩;exact evalAllH hok f k (by omega) (by omega) V hkV) (fun i=>evalF_zero E f i) hx
theorem evalH {h:MH} {hs:SH} {ao:Option Addr} {ac:Nat} {E:EnvD} (hok:Ok E):EvH h hs ao ac E (evE E) E.m.exprs.length:=fun q V h0 hq hkV=>by
 obtain ⟨k,rfl⟩:∃k:Nat,q=k:=⟨q.toNat,by omega⟩;exact evalAllH hok _ k (by omega) (by omega) V hkV
end Go.Proofs.YtbhgdlfndamklaaGreatDoor
namespace Go.Proofs.YtbhgdlfndamklaaGreatDoor
open Go.ChangeShapes Go.WideShapes Go.ChangeAt Go.RowKit
structure RowS where
 e:TypeId
 size:Nat
 v:Value
 n:Nat
 xs:List Value
def rowNil:RowS:=⟨0,0,.slice none 0 0,0,[]⟩
def kG:Nat × Nat × Nat:=(0,0,0)
def kC:Nat × Nat × Nat:=(1,0,0)
def kP:Nat × Nat × Nat:=(2,0,0)
def kQ (i:Nat):Nat × Nat × Nat:=(3,i,0)
def kM (i j:Nat):Nat × Nat × Nat:=(4,i,j)
def kF (i:Nat):Nat × Nat × Nat:=(5,i,0)
structure Own (B:Nat) (w:World) (R:Nat × Nat × Nat→RowS):Prop where
 row:∀k,w.ownsRow B (R k).e (R k).size (R k).v (R k).n (R k).xs
 ne:∀k k',k≠k'→∀g,(R k).v.ownBlock=some g→ (R k').v.ownBlock≠some g
def upd (R:Nat × Nat × Nat→RowS) (k:Nat × Nat × Nat) (r:RowS):Nat × Nat × Nat→RowS:=fun q=>if q=k then r else R q
theorem upd_same (R:Nat × Nat × Nat→RowS) (k:Nat × Nat × Nat) (r:RowS):upd R k r k=r:=if_pos rfl
theorem upd_ne (R:Nat × Nat × Nat→RowS) {k q:Nat × Nat × Nat} (r:RowS) (h:q≠k):upd R k r q=R q:=if_neg h
theorem Own.nil (B:Nat) (w:World):Own B w (fun _=>rowNil):=⟨fun _=>World.ownsRow_nil _ _ _ _,fun _ _ _ g h=>by cases h⟩
theorem Own.below {B:Nat} {w w':World} {R:Nat × Nat × Nat→RowS} (h:Own B w R) (hb:Below w.heap.size w w'):Own B w' R:=⟨fun k=>owns_below (h.row k) hb,h.ne⟩
theorem Own.mono {B B':Nat} {w:World} {R:Nat × Nat × Nat→RowS} (h:Own B w R) (hB:B'≤B):Own B' w R:=⟨fun k=>Joins.ownsRow_le (h.row k) hB,h.ne⟩
theorem Own.put {B:Nat} {w w':World} {R:Nat × Nat × Nat→RowS} (h:Own B w R) (hB:B≤w.heap.size) (hb:Below w.heap.size w w') (k:Nat × Nat × Nat) (r:RowS) (hr:w'.ownsRow w.heap.size r.e r.size r.v r.n r.xs):Own B w' (upd R k r):=by
 refine ⟨fun q=> ?_,fun q q' hq g hg=> ?_⟩
 · by_cases e:q=k
   · rw [e,upd_same];exact Joins.ownsRow_le hr hB
   · rw [upd_ne R r e];exact owns_below (h.row q) hb
 · by_cases e:q=k
   · rw [e,upd_same] at hg;rw [upd_ne R r (fun e'=>hq (e.trans e'.symm))];intro h2;have:=((h.row q').lt g h2).2;have:=(hr.lt g hg).1;omega
   · rw [upd_ne R r e] at hg;by_cases e':q'=k
     · rw [e',upd_same];intro h2;have:=((h.row q).lt g hg).2;have:=(hr.lt g h2).1;omega
     · rw [upd_ne R r e'];exact h.ne q q' hq g hg
theorem Own.set {B:Nat} {w:World} {R:Nat × Nat × Nat→RowS} (h:Own B w R) (k:Nat × Nat × Nat) {g n c:Nat} (hv: (R k).v= .slice (some ⟨g,0,none⟩) n c) (hn: (R k).n=n) (j:Nat) (u:Value):Own B (w.setCell ⟨g,j,none⟩ u) (upd R k ⟨(R k).e,(R k).size,(R k).v,(R k).n,(R k).xs.set j u⟩):=by
 have hk:=h.row k;have hob: (R k).v.ownBlock=some g:=by rw [hv];rfl
 refine ⟨fun q=> ?_,fun q q' hq=> ?_⟩
 · by_cases e:q=k
   · rw [e,upd_same];simp only;rw [hv,hn] at hk ⊢;exact (hk.stored j u).1
   · rw [upd_ne R _ e];exact owns_set (h.row q) _ _ (fun h2=>h.ne k q (fun e2=>e e2.symm) g hob h2)
 · have key:∀q,(upd R k ⟨(R k).e,(R k).size,(R k).v,(R k).n,(R k).xs.set j u⟩ q).v= (R q).v:=fun q=>by
    by_cases e:q=k
    · rw [e,upd_same]
    · rw [upd_ne R _ e]
   rw [key,key];exact h.ne q q' hq
theorem Own.other {B:Nat} {w:World} {R:Nat × Nat × Nat→RowS} (h:Own B w R) (a:Addr) (u:Value) (hne:∀k,(R k).v.ownBlock≠some a.block):Own B (w.setCell a u) R:=⟨fun k=>owns_set (h.row k) _ _ (hne k),h.ne⟩
theorem Own.otherT {B:Nat} {w:World} {R:Nat × Nat × Nat→RowS} (h:Own B w R) {b:Nat} {cs:Array Value} {T:TypeId} {fr:Nat × Nat} (hb:w.heap[b]? =some (.cells cs T fr)) (hT:∀k,(R k).e≠T) (i:Nat) (u:Value):Own B (w.setCell ⟨b,i,none⟩ u) R:=
 h.other _ _ fun k=>owns_neObj (h.row k) hb (hT k)
theorem Own.low {B:Nat} {w:World} {R:Nat × Nat × Nat→RowS} (h:Own B w R) (a:Addr) (ha:a.block < B) (u:Value):Own B (w.setCell a u) R:=
 h.other _ _ fun k e=>by have:=((h.row k).lt _ e).1;omega
def intsV (l:List Int):List Value:=l.map (.int .i64)
def sl (o:Option Addr) (n c:Nat):Value:= .slice o n c
def IsInts (r:RowS) (l:List Int):Prop:=∃o c,r= ⟨2,1,.slice o l.length c,l.length,intsV l⟩
def IsMsgs (R:Nat × Nat × Nat→RowS) (i:Nat) (q:List (List Int)):Prop:=∃o c xs,R (kQ i)= ⟨92,1,.slice o q.length c,q.length,xs⟩∧∀j (hj:j < q.length),xs[j]? =some (R (kM i j)).v∧IsInts (R (kM i j)) q[j]
def IsChans (R:Nat × Nat × Nat→RowS) (o:Option Addr) (c:Nat) (l:List ChanD):Prop:=∃xs,R kC= ⟨91,2,.slice o l.length c,l.length,xs⟩∧∀i (hi:i < l.length),xs[i*2]? =some (.int .i64 l[i].shape)∧xs[i*2+1]? =some (R (kQ i)).v∧IsMsgs R i l[i].queue
def IsProcs (R:Nat × Nat × Nat→RowS) (o:Option Addr) (c:Nat) (l:List ProcessD):Prop:=∃xs,R kP= ⟨84,4,.slice o l.length c,l.length,xs⟩∧∀i (hi:i < l.length),xs[i*4]? =some (.int .i64 l[i].type)∧xs[i*4+1]? =some (.int .i64 l[i].loc)∧xs[i*4+2]? =some (.int .i64 l[i].prio)∧xs[i*4+3]? =some (R (kF i)).v∧IsInts (R (kF i)) l[i].frame
structure Spl (R:Nat × Nat × Nat→RowS) (h:SH) (s:StateD):Prop where
 g:R kG= ⟨2,1,.slice h.go s.globals.length h.gc,s.globals.length,intsV s.globals⟩
 c:IsChans R h.co h.cc s.chans
 p:IsProcs R h.po h.pc s.procs
structure Lens (s:StateD):Prop where
 g:s.globals.length≤140737488355328
 c:s.chans.length≤140737488355328
 p:s.procs.length≤140737488355328
 q:∀x ∈ s.chans,x.queue.length≤140737488355328∧∀y ∈ x.queue,y.length≤140737488355328
 f:∀x ∈ s.procs,x.frame.length≤140737488355328
theorem SD.lens {B:Nat} {w:World} {h:SH} {s:StateD} (d:SD B w h s):Lens s:=by
 refine ⟨d.globals.1,d.chans.1,d.procs.1,fun x hx=> ?_,fun x hx=> ?_⟩
 · obtain ⟨i,hi⟩:=List.mem_iff_getElem?.1 hx;obtain ⟨g,off,-,-,hc⟩:=d.chans.get hi;obtain ⟨o,c,-,hr⟩:=hc.queue;refine ⟨hr.1,fun y hy=> ?_⟩;obtain ⟨j,hj⟩:=List.mem_iff_getElem?.1 hy;obtain ⟨g2,off2,-,-,o2,c2,-,hr2⟩:=hr.get hj;exact hr2.1
 · obtain ⟨i,hi⟩:=List.mem_iff_getElem?.1 hx;obtain ⟨g,off,-,-,hc⟩:=d.procs.get hi;obtain ⟨o,c,-,hr⟩:=hc.frame;exact hr.1
theorem owns_row {w:World} {B size n:Nat} {e:TypeId} {o:Option Addr} {c:Nat} {xs:List Value} (h:w.ownsRow B e size (.slice o n c) n xs):n=0∨∃g,o=some ⟨g,0,none⟩∧B≤g∧g < w.heap.size∧∀j,j < n*size→w.cell? ⟨g,j,none⟩=xs[j]? :=by
 rcases Joins.ownsRow_forms h with ⟨-,h2⟩ | ⟨g,cap,hv⟩
 · exact .inl h2
 · injection hv with e1 e2 e3
   subst e1 e3;obtain ⟨h3,h4⟩:=h.lt g rfl;exact .inr ⟨g,rfl,h3,h4,fun j hj=>h.cellAt j hj⟩
theorem IsInts.row {w:World} {B:Nat} {r:RowS} {l:List Int} (h:IsInts r l) (hl:l.length≤140737488355328) (ho:w.ownsRow B r.e r.size r.v r.n r.xs):∃o c,r.v= .slice o l.length c∧Row w.heap.size o 1 (intAt w) l:=by
 obtain ⟨o,c,rfl⟩:=h;dsimp only at ho;refine ⟨o,c,rfl,hl, ?_⟩;rcases owns_row ho with h0 | ⟨g,rfl,-,hg,hc⟩
 · exact .inl h0
 · refine .inr ⟨g,0,rfl,hg,fun i hi=> ?_⟩;have:=hc i (by omega);unfold intAt;rw [show 0+i*1=i from by omega,this];simp [intsV,hi]
theorem Spl.sd {B:Nat} {w:World} {R:Nat × Nat × Nat→RowS} {h:SH} {s:StateD} (hs:Spl R h s) (ho:Own B w R) (hl:Lens s):SD w.heap.size w h s:=by
 refine ⟨?_, ?_, ?_⟩
 · obtain ⟨o,c,h1,h2⟩:=IsInts.row (w:=w) ⟨_,_,hs.g⟩ hl.g (ho.row kG);rw [hs.g] at h1;injection h1 with e1 _ _
   rw [e1];exact h2
 · obtain ⟨xs,hx,hi⟩:=hs.c;have hr:=ho.row kC;rw [hx] at hr;dsimp only at hr;refine ⟨hl.c, ?_⟩;rcases owns_row hr with h0 | ⟨g,e,-,hg,hc⟩
   · exact .inl h0
   · refine .inr ⟨g,0,e,hg,fun i hi'=> ?_⟩;obtain ⟨x0,x1,o,c,ys,hq,hm⟩:=hi i hi';have hlq:=hl.q s.chans[i] (List.getElem_mem hi');refine ⟨?_,o,c, ?_,hlq.1, ?_⟩
     · rw [←x0,←hc (i*2) (by omega)];congr 2;omega
     · rw [hq] at x1;rw [←x1,←hc (i*2+1) (by omega)];congr 2;omega
     · have hr2:=ho.row (kQ i);rw [hq] at hr2;dsimp only at hr2;rcases owns_row hr2 with h0 | ⟨g2,e2,-,hg2,hc2⟩
       · exact .inl h0
       · refine .inr ⟨g2,0,e2,hg2,fun j hj=> ?_⟩;obtain ⟨y0,y1⟩:=hm j hj;obtain ⟨o3,c3,h3,h4⟩:=y1.row (hlq.2 _ (List.getElem_mem hj)) (ho.row (kM i j));refine ⟨o3,c3, ?_,h4⟩;rw [←h3,←y0,←hc2 j (by omega)];congr 2;omega
 · obtain ⟨xs,hx,hi⟩:=hs.p;have hr:=ho.row kP;rw [hx] at hr;dsimp only at hr;refine ⟨hl.p, ?_⟩;rcases owns_row hr with h0 | ⟨g,e,-,hg,hc⟩
   · exact .inl h0
   · refine .inr ⟨g,0,e,hg,fun i hi'=> ?_⟩;obtain ⟨x0,x1,x2,x3,x4⟩:=hi i hi';obtain ⟨o3,c3,h3,h4⟩:=x4.row (hl.f _ (List.getElem_mem hi')) (ho.row (kF i));rw [h3] at x3;refine ⟨?_, ?_, ?_,o3,c3, ?_,h4⟩
     · rw [←x0,←hc (i*4) (by omega)];congr 2;omega
     · rw [←x1,←hc (i*4+1) (by omega)];congr 2;omega
     · rw [←x2,←hc (i*4+2) (by omega)];congr 2;omega
     · rw [←x3,←hc (i*4+3) (by omega)];congr 2;omega
def SO (B:Nat) (w:World) (h:SH) (s:StateD):Prop:=∃R,Own B w R∧Spl R h s
theorem SO.below {B:Nat} {w w':World} {h:SH} {s:StateD} (o:SO B w h s) (hb:Below w.heap.size w w'):SO B w' h s:=by
 obtain ⟨R,h1,h2⟩:=o;exact ⟨R,h1.below hb,h2⟩
theorem SO.sd {B:Nat} {w:World} {h:SH} {s:StateD} (o:SO B w h s) (hl:Lens s):SD w.heap.size w h s:=by
 obtain ⟨R,h1,h2⟩:=o;exact h2.sd h1 hl
end Go.Proofs.YtbhgdlfndamklaaGreatDoor
