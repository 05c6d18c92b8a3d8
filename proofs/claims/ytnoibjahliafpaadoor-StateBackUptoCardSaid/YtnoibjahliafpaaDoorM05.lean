/- May a channel be, may a process? -/
import Derived.Test.YtnoibjahliafpaaDoorM04
import Derived.BigQuiet
import Derived.Test.YtnoibjahliafpaaDoorM02
set_option linter.unusedVariables false
set_option linter.unusedSimpArgs false
namespace Go.Proofs.YtnoibjahliafpaaDoor
open Go.ChangeShapes Go.WideShapes Go.ChangeAt Go.RowKit
set_option maxHeartbeats 4000000 in
set_option maxRecDepth 100000 in
theorem chanMayC {B pm g a:Nat} {h:MH} {m:ModelD} {c:ChanD} (w:World) (hk:Ck B w pm h m) (hc:chanAt B w g a c) (hg:g < B):
 Calls Tryd.prog 40 #[.pointer (some ⟨pm,0,none⟩),.pointer (some ⟨g,a,none⟩)] w fun e w'=>e= .returned (.bool (chanMayB m c))∧Below w.heap.size w w':=by
 have HK:=Lib.hid hk;have HC:=Lib.hid hc;have hB:B≤w.heap.size:=by have:=hk.le;have:=hk.lt;omega
 have c2:=hk.c2;have q0:=hc.c0;obtain ⟨qo,qc,q1,hq⟩:=hc.queue;have HQ:=Lib.hid hq;have hql:=hq.1;have hsl:=hk.md.shapes.1;clear hk hc hq;by_cases s0:c.shape < 0
 · have d0:decide (c.shape < 0)=true:=decide_eq_true s0;have HV:Hid (chanMayB m c=false):=Lib.hid (by unfold chanMayB chanHeadB;rw [decide_eq_false (by omega)];rfl);clear s0;go_enter Tryd.func40,Tryd.ntmps40;go_wp2_with fail;go_quiet (fail);go_wp2_with fail;go_ret;exact ⟨retB HV.out.symm,bdrew (Below.refl _ _) _⟩
 · have d0:decide (c.shape < 0)=false:=decide_eq_false s0;by_cases s1: (m.shapes.length:Int)≤c.shape
   · have d1:decide ((m.shapes.length:Int)≤c.shape)=true:=decide_eq_true s1;have HV:Hid (chanMayB m c=false):=Lib.hid (by unfold chanMayB chanHeadB;rw [decide_eq_false (by omega)];rfl);clear s0 s1;go_enter Tryd.func40,Tryd.ntmps40;go_wp2_with fail;go_quiet (fail);go_wp2_with fail;go_ret;exact ⟨retB HV.out.symm,bdrew (Below.refl _ _) _⟩
   · have d1:decide ((m.shapes.length:Int)≤c.shape)=false:=decide_eq_false s1;obtain ⟨k,hk⟩:∃k:Nat,c.shape=k:=⟨c.shape.toNat,by omega⟩;rw [hk] at q0 d0 d1;have hkl:k < m.shapes.length:=by omega
     have d1n:decide (m.shapes.length≤k)=false:=decide_eq_false (by omega);have hki: (k:Int) < m.shapes.length:=by omega
     have hkz: (0:Int)≤k:=by omega
     obtain ⟨s,hs⟩:∃s,m.shapes[k]? =some s:=⟨_,List.getElem?_eq_getElem hkl⟩;have HV:Hid (chanMayB m c= (decide ((c.queue.length:Int)≤s.room) && c.queue.all (fitsL s.fields))):=Lib.hid (by unfold chanMayB chanHeadB chanFB;rw [hk,decide_eq_true (by omega),Int.toNat_natCast,hs];rfl);obtain ⟨g3,off3,ho3,hg3,hsa⟩:=HK.out.md.shapes.get hs;have r0:=hsa.c0;rw [ho3] at c2;obtain ⟨fo,fc,r1,hf⟩:=hsa.fields;have HF:=Lib.hid hf;clear hf hsa ho3 hs hk s0 s1;by_cases s2:s.room < (c.queue.length:Int)
     · have d2:decide (s.room < (c.queue.length:Int))=true:=decide_eq_true s2;have HZ:Hid (chanMayB m c=false):=Lib.hid (by rw [HV.out,decide_eq_false (by omega)];rfl);clear s2;go_enter Tryd.func40,Tryd.ntmps40;go_wp2_with fail;go_quiet (fail);go_wp2_with fail;go_ret;exact ⟨retB HZ.out.symm,bdrew (Below.refl _ _) _⟩
     · have d2:decide (s.room < (c.queue.length:Int))=false:=decide_eq_false s2;have HZ:Hid (chanMayB m c=c.queue.all (fitsL s.fields)):=Lib.hid (by rw [HV.out,decide_eq_true (by omega)];rfl);clear s2;have HCE:Hid (∀W,Below w.heap.size w W→W.cell? ⟨pm,2,none⟩=some (.slice (some ⟨g3,off3,none⟩) m.shapes.length h.sc)∧W.cell? ⟨g,a,none⟩=some (.int .i64 k)∧W.cell? ⟨g,a+1,none⟩=some (.slice qo c.queue.length qc)∧W.cell? ⟨g3,off3+k*2+1,none⟩=some (.slice fo s.fields.length fc)∧Row B fo 2 (tyAt W) s.fields∧Row B qo 1 (msgAt B W) c.queue):=Lib.hid fun W hb=>
        ⟨(hb.cell HK.out.lt).trans c2,(hb.cell (by show g < _;omega)).trans q0,(hb.cell (by show g < _;omega)).trans q1,(hb.cell (by show g3 < _;omega)).trans r1,HF.out.mono fun _ _ _ hg=>tyAt.below (hb.mono hB) hg,HQ.out.mono fun _ _ _ hg=>msgAt.below (hb.mono hB) hg⟩
       go_enter Tryd.func40,Tryd.ntmps40;go_wp2_with fail;go_quiet (fail);have HB0:Hid (Below w.heap.size w (w.drewN nq)):=Lib.hid (bdrew (Below.refl _ _) nq);generalize w.drewN nq=W0 at HB0 ⊢;clear c2 q0 q1 r0 r1 d0 d1 d2 d1n;have q1:=(HCE.out _ HB0.out).2.2.1;go_wp2_with fail;clear q1
       go_loopw [48] (fun iv W=>∃i:Nat,iv= .int .i64 i∧i≤c.queue.length∧Hid (∀j (hj:j < c.queue.length),j < i→fitsL s.fields c.queue[j]=true)∧Hid (Below w.heap.size w W)) (fun iv _=>c.queue.length - (intOf iv).toNat)
       case atStart=>exact ⟨0,rfl,by omega,Lib.hid fun j _ h=>by omega,HB0⟩
       case round=>
        clear HB0;obtain ⟨i,rfl,hi,HJ,HB⟩:=hrel;have hi0: (0:Int)≤i:=by omega
        by_cases hlt:i < c.queue.length
        · have hlti: (i:Int) < c.queue.length:=by omega
          have hce:=HCE.out _ HB.out;obtain ⟨gq,offq,hoq,hgq,ms,mc,e0,hms⟩:=hce.2.2.2.2.2.cell hlt;obtain ⟨msg,hmsg⟩:∃x,c.queue[i]=x:=⟨_,rfl⟩;rw [hmsg] at e0 hms;rw [Nat.mul_one] at e0;have HMS:=Lib.hid hms;have c2:=hce.1;have q0:=hce.2.1;have r1:=hce.2.2.2.1;have HBAD:Hid (fitsL s.fields msg=false→chanMayB m c=false):=Lib.hid fun h=>by rw [HZ.out,all_bad hlt (by rw [hmsg];exact h)]
          have HGO:Hid (fitsL s.fields msg=true→∀j (hj:j < c.queue.length),j < i+1→fitsL s.fields c.queue[j]=true):=Lib.hid fun h j hj hjk=>by
           by_cases e:j=i
           · subst e;rw [hmsg];exact h
           · exact HJ.out j hj (by omega)
          subst hoq;clear hce hms hmsg hgq;go_wp2_with fail;go_still_tail 12,(by kernel_rfl);change wpList _ _ _ _ _ wr.drew;have HB2:Hid (Below w.heap.size w wr.drew):=Lib.hid HB.out.drew;have HM2:Hid (Row B ms 1 (intAt wr.drew) msg):=Lib.hid (HMS.out.mono fun _ _ _ hg=>intAt.below (Below.refl _ _).drew hg);generalize wr.drew=W2 at HB2 HM2 ⊢;clear c2 q0 r1 e0;go_wp2_with fail;refine (sfitsC s.fields msg fo ms fc mc W2 (by have:=HB2.out.size;omega) (HCE.out _ HB2.out).2.2.2.2.1 HM2.out).mono ?_;rintro e W3 ⟨rfl,hb3⟩;have HB3:=Lib.hid (HB2.out.trans (hb3.mono HB2.out.size));clear hb3;obtain ⟨u,hu⟩:∃u,fitsL s.fields msg=u:=⟨_,rfl⟩;rw [hu];have HU:=Lib.hid hu;clear hu;cases u
          · have HZ2:=Lib.hid (HBAD.out HU.out);go_wp2_with fail;go_ret;exact ⟨retB HZ2.out.symm,HB3.out⟩
          · have HZ2:=Lib.hid (HGO.out HU.out);go_wp2_with fail;go_roundw;case rel=>exact ⟨i+1,by go_num,by omega,HZ2,HB3⟩
            case measure=>simp [intOf];omega
        · have hlti:¬ (i:Int) < c.queue.length:=by omega
          have HA:Hid (chanMayB m c=true):=Lib.hid (by rw [HZ.out];exact all_of fun j hj=>HJ.out j hj (by omega));go_wp2_with fail;go_ret;exact ⟨retB HA.out.symm,HB.out⟩
set_option maxHeartbeats 4000000 in
set_option maxRecDepth 100000 in
theorem processMayC {B pm g a:Nat} {h:MH} {m:ModelD} {c:ProcessD} (w:World) (hk:Ck B w pm h m) (hc:processAt B w g a c) (hg:g < B):
 Calls Tryd.prog 41 #[.pointer (some ⟨pm,0,none⟩),.pointer (some ⟨g,a,none⟩)] w fun e w'=>e= .returned (.bool (procMayB m c))∧Below w.heap.size w w':=by
 have HK:=Lib.hid hk;have hB:B≤w.heap.size:=by have:=hk.le;have:=hk.lt;omega
 have c4:=hk.c4;have c5:=hk.c5;have q0:=hc.c0;have q1:=hc.c1;have q2:=hc.c2;obtain ⟨qo,qc,q3,hq⟩:=hc.frame;have HQ:=Lib.hid hq;have hql:=hq.1;have hsl:=hk.md.procs.1;clear hk hc hq;by_cases s0:c.type < 0
 · have d0:decide (c.type < 0)=true:=decide_eq_true s0;have HV:Hid (procMayB m c=false):=Lib.hid (by unfold procMayB procHeadB;rw [decide_eq_false (by omega)];rfl);clear s0;go_enter Tryd.func41,Tryd.ntmps41;go_wp2_with fail;go_quiet (fail);go_wp2_with fail;go_ret;exact ⟨retB HV.out.symm,bdrew (Below.refl _ _) _⟩
 · have d0:decide (c.type < 0)=false:=decide_eq_false s0;by_cases s1: (m.procs.length:Int)≤c.type
   · have d1:decide ((m.procs.length:Int)≤c.type)=true:=decide_eq_true s1;have HV:Hid (procMayB m c=false):=Lib.hid (by unfold procMayB procHeadB;rw [decide_eq_false (by omega)];rfl);clear s0 s1;go_enter Tryd.func41,Tryd.ntmps41;go_wp2_with fail;go_quiet (fail);go_wp2_with fail;go_ret;exact ⟨retB HV.out.symm,bdrew (Below.refl _ _) _⟩
   · have d1:decide ((m.procs.length:Int)≤c.type)=false:=decide_eq_false s1;by_cases s2:c.type=m.claim
     · have d2: (c.type == m.claim)=true:=by rw [beq_iff_eq];exact s2
       have HV:Hid (procMayB m c=false):=Lib.hid (by unfold procMayB procHeadB;rw [decide_eq_false (by omega)];rfl);clear s0 s1 s2;go_enter Tryd.func41,Tryd.ntmps41;go_wp2_with fail;go_quiet (fail);go_wp2_with fail;go_ret;exact ⟨retB HV.out.symm,bdrew (Below.refl _ _) _⟩
     · have d2: (c.type == m.claim)=false:=by rw [beq_eq_false_iff_ne];exact s2
       obtain ⟨k,hk⟩:∃k:Nat,c.type=k:=⟨c.type.toNat,by omega⟩;have hkl:k < m.procs.length:=by omega
       have hki: (k:Int) < m.procs.length:=by omega
       have hkz: (0:Int)≤k:=by omega
       obtain ⟨t,hs⟩:∃s,m.procs[k]? =some s:=⟨_,List.getElem?_eq_getElem hkl⟩;have HV:Hid (procMayB m c= (decide (0≤c.loc∧c.loc < t.locs.length∧c.prio=t.prio) && fitsL t.frame c.frame)):=Lib.hid (by unfold procMayB procHeadB procFB;rw [decide_eq_true (by omega),hk,Int.toNat_natCast,hs];rfl);rw [hk] at q0 d0 d1 d2;obtain ⟨g3,off3,ho3,hg3,hsa⟩:=HK.out.md.procs.get hs;rw [ho3] at c4;obtain ⟨fo,fc,r2,hf⟩:=hsa.frame;obtain ⟨lo,lc,r4,hlr⟩:=hsa.locs;have r8:=hsa.c8;have HF:=Lib.hid hf;have hll:=hlr.1;clear hf hsa ho3 hs hk s0 s1 s2 hlr;by_cases s3:0≤c.loc
       · have d3:decide (0≤c.loc)=true:=decide_eq_true s3;by_cases s4:c.loc < (t.locs.length:Int)
         · have d4:decide (c.loc < (t.locs.length:Int))=true:=decide_eq_true s4;by_cases s5:c.prio=t.prio
           · have d5: (c.prio == t.prio)=true:=by rw [beq_iff_eq];exact s5
             have HZ:Hid (procMayB m c=fitsL t.frame c.frame):=Lib.hid (by rw [HV.out,decide_eq_true ⟨s3,s4,s5⟩];rfl);clear s3 s4 s5;go_enter Tryd.func41,Tryd.ntmps41;go_wp2_with fail;go_quiet (fail);have HB0:Hid (Below w.heap.size w (w.drewN nq)):=Lib.hid (bdrew (Below.refl _ _) nq);have HCE:Hid (∀W,Below w.heap.size w W→W.cell? ⟨pm,4,none⟩=some (.slice (some ⟨g3,off3,none⟩) m.procs.length h.pc)∧W.cell? ⟨g,a,none⟩=some (.int .i64 k)∧W.cell? ⟨g,a+1,none⟩=some (.int .i64 c.loc)∧W.cell? ⟨g,a+2,none⟩=some (.int .i64 c.prio)∧W.cell? ⟨g,a+3,none⟩=some (.slice qo c.frame.length qc)∧W.cell? ⟨g3,off3+k*10+2,none⟩=some (.slice fo t.frame.length fc)∧W.cell? ⟨g3,off3+k*10+4,none⟩=some (.slice lo t.locs.length lc)∧W.cell? ⟨g3,off3+k*10+8,none⟩=some (.int .i64 t.prio)∧Row B fo 2 (tyAt W) t.frame∧Row B qo 1 (intAt W) c.frame):=Lib.hid fun W hb=>
              ⟨(hb.cell HK.out.lt).trans c4,(hb.cell (by show g < _;omega)).trans q0,(hb.cell (by show g < _;omega)).trans q1,(hb.cell (by show g < _;omega)).trans q2,(hb.cell (by show g < _;omega)).trans q3,(hb.cell (by show g3 < _;omega)).trans r2,(hb.cell (by show g3 < _;omega)).trans r4,(hb.cell (by show g3 < _;omega)).trans r8,HF.out.mono fun _ _ _ hg=>tyAt.below (hb.mono hB) hg,HQ.out.mono fun _ _ _ hg=>intAt.below (hb.mono hB) hg⟩
             generalize w.drewN nq=W0 at HB0 ⊢;clear c4 c5 q0 q1 q2 q3 r2 r4 r8 d0 d1 d2;obtain ⟨c4,q0,q1,q2,q3,r2,r4,r8,-,-⟩:=HCE.out _ HB0.out;go_wp2_with fail;go_quiet (fail);have HB1:Hid (Below w.heap.size w (W0.drewN nq)):=Lib.hid (bdrew HB0.out nq);generalize W0.drewN nq=W1 at HB1 ⊢;clear c4 q0 q1 q2 q3 r2 r4 r8;obtain ⟨c4,q0,q1,q2,q3,r2,r4,r8,-,-⟩:=HCE.out _ HB1.out;go_wp2_with fail;go_still_tail 37,(by kernel_rfl);change wpList _ _ _ _ _ W1.drew;have HB2:Hid (Below w.heap.size w W1.drew):=Lib.hid HB1.out.drew;generalize W1.drew=W2 at HB2 ⊢;clear c4 q0 q1 q2 q3 r2 r4 r8 d3 d4 d5;go_wp2_with fail;refine (sfitsC t.frame c.frame fo qo fc qc W2 (by have:=HB2.out.size;omega) (HCE.out _ HB2.out).2.2.2.2.2.2.2.2.1 (HCE.out _ HB2.out).2.2.2.2.2.2.2.2.2).mono ?_;rintro e W3 ⟨rfl,hb3⟩;have HB3:=Lib.hid (HB2.out.trans (hb3.mono HB2.out.size));clear hb3;go_wp2_with fail;go_ret;exact ⟨retB HZ.out.symm,HB3.out⟩
           · have d5: (c.prio == t.prio)=false:=by rw [beq_eq_false_iff_ne];exact s5
             have HZ:Hid (procMayB m c=false):=Lib.hid (by rw [HV.out,decide_eq_false (fun h=>s5 h.2.2)];rfl);clear s3 s4 s5;have HCE:Hid (∀W,Below w.heap.size w W→W.cell? ⟨pm,4,none⟩=some (.slice (some ⟨g3,off3,none⟩) m.procs.length h.pc)∧W.cell? ⟨g,a,none⟩=some (.int .i64 k)∧W.cell? ⟨g,a+1,none⟩=some (.int .i64 c.loc)∧W.cell? ⟨g,a+2,none⟩=some (.int .i64 c.prio)∧W.cell? ⟨g3,off3+k*10+4,none⟩=some (.slice lo t.locs.length lc)∧W.cell? ⟨g3,off3+k*10+8,none⟩=some (.int .i64 t.prio)):=Lib.hid fun W hb=>
              ⟨(hb.cell HK.out.lt).trans c4,(hb.cell (by show g < _;omega)).trans q0,(hb.cell (by show g < _;omega)).trans q1,(hb.cell (by show g < _;omega)).trans q2,(hb.cell (by show g3 < _;omega)).trans r4,(hb.cell (by show g3 < _;omega)).trans r8⟩
             go_enter Tryd.func41,Tryd.ntmps41;go_wp2_with fail;go_quiet (fail);have HB0:Hid (Below w.heap.size w (w.drewN nq)):=Lib.hid (bdrew (Below.refl _ _) nq);generalize w.drewN nq=W0 at HB0 ⊢;clear c4 c5 q0 q1 q2 q3 r2 r4 r8 d0 d1 d2;obtain ⟨c4,q0,q1,q2,r4,r8⟩:=HCE.out _ HB0.out;go_wp2_with fail;go_quiet (fail);have HB1:Hid (Below w.heap.size w (W0.drewN nq)):=Lib.hid (bdrew HB0.out nq);generalize W0.drewN nq=W1 at HB1 ⊢;clear c4 q0 q1 q2 r4 r8;obtain ⟨c4,q0,q1,q2,r4,r8⟩:=HCE.out _ HB1.out;go_wp2_with fail;go_quiet (fail);go_wp2_with fail;go_ret;exact ⟨retB HZ.out.symm,bdrew HB1.out _⟩
         · have d4:decide (c.loc < (t.locs.length:Int))=false:=decide_eq_false s4;have HZ:Hid (procMayB m c=false):=Lib.hid (by rw [HV.out,decide_eq_false (fun h=>s4 h.2.1)];rfl);clear s3 s4;have HCE:Hid (∀W,Below w.heap.size w W→W.cell? ⟨pm,4,none⟩=some (.slice (some ⟨g3,off3,none⟩) m.procs.length h.pc)∧W.cell? ⟨g,a,none⟩=some (.int .i64 k)∧W.cell? ⟨g,a+1,none⟩=some (.int .i64 c.loc)∧W.cell? ⟨g,a+2,none⟩=some (.int .i64 c.prio)∧W.cell? ⟨g3,off3+k*10+4,none⟩=some (.slice lo t.locs.length lc)∧W.cell? ⟨g3,off3+k*10+8,none⟩=some (.int .i64 t.prio)):=Lib.hid fun W hb=>
            ⟨(hb.cell HK.out.lt).trans c4,(hb.cell (by show g < _;omega)).trans q0,(hb.cell (by show g < _;omega)).trans q1,(hb.cell (by show g < _;omega)).trans q2,(hb.cell (by show g3 < _;omega)).trans r4,(hb.cell (by show g3 < _;omega)).trans r8⟩
           go_enter Tryd.func41,Tryd.ntmps41;go_wp2_with fail;go_quiet (fail);have HB0:Hid (Below w.heap.size w (w.drewN nq)):=Lib.hid (bdrew (Below.refl _ _) nq);generalize w.drewN nq=W0 at HB0 ⊢;clear c4 c5 q0 q1 q2 q3 r2 r4 r8 d0 d1 d2;obtain ⟨c4,q0,q1,q2,r4,r8⟩:=HCE.out _ HB0.out;go_wp2_with fail;go_quiet (fail);have HB1:Hid (Below w.heap.size w (W0.drewN nq)):=Lib.hid (bdrew HB0.out nq);generalize W0.drewN nq=W1 at HB1 ⊢;clear c4 q0 q1 q2 r4 r8;obtain ⟨c4,q0,q1,q2,r4,r8⟩:=HCE.out _ HB1.out;go_wp2_with fail;go_quiet (fail);go_wp2_with fail;go_ret;exact ⟨retB HZ.out.symm,bdrew HB1.out _⟩
       · have d3:decide (0≤c.loc)=false:=decide_eq_false s3;have HZ:Hid (procMayB m c=false):=Lib.hid (by rw [HV.out,decide_eq_false (fun h=>s3 h.1)];rfl);clear s3;have HCE:Hid (∀W,Below w.heap.size w W→W.cell? ⟨pm,4,none⟩=some (.slice (some ⟨g3,off3,none⟩) m.procs.length h.pc)∧W.cell? ⟨g,a,none⟩=some (.int .i64 k)∧W.cell? ⟨g,a+1,none⟩=some (.int .i64 c.loc)∧W.cell? ⟨g,a+2,none⟩=some (.int .i64 c.prio)∧W.cell? ⟨g3,off3+k*10+4,none⟩=some (.slice lo t.locs.length lc)∧W.cell? ⟨g3,off3+k*10+8,none⟩=some (.int .i64 t.prio)):=Lib.hid fun W hb=>
          ⟨(hb.cell HK.out.lt).trans c4,(hb.cell (by show g < _;omega)).trans q0,(hb.cell (by show g < _;omega)).trans q1,(hb.cell (by show g < _;omega)).trans q2,(hb.cell (by show g3 < _;omega)).trans r4,(hb.cell (by show g3 < _;omega)).trans r8⟩
         go_enter Tryd.func41,Tryd.ntmps41;go_wp2_with fail;go_quiet (fail);have HB0:Hid (Below w.heap.size w (w.drewN nq)):=Lib.hid (bdrew (Below.refl _ _) nq);generalize w.drewN nq=W0 at HB0 ⊢;clear c4 c5 q0 q1 q2 q3 r2 r4 r8 d0 d1 d2;obtain ⟨c4,q0,q1,q2,r4,r8⟩:=HCE.out _ HB0.out;go_wp2_with fail;go_quiet (fail);have HB1:Hid (Below w.heap.size w (W0.drewN nq)):=Lib.hid (bdrew HB0.out nq);generalize W0.drewN nq=W1 at HB1 ⊢;clear c4 q0 q1 q2 r4 r8;obtain ⟨c4,q0,q1,q2,r4,r8⟩:=HCE.out _ HB1.out;go_wp2_with fail;go_quiet (fail);go_wp2_with fail;go_ret;exact ⟨retB HZ.out.symm,bdrew HB1.out _⟩
end Go.Proofs.YtnoibjahliafpaaDoor
namespace Go.Proofs.YtnoibjahliafpaaDoor
def toGo (m:ModelD) (proc:Nat) (seen:List Int):Nat:=((m.exprs.zip seen).map fun z=>if z.2= (proc:Int)+1 then 0 else (partsL z.1).length).sum
def partsN (l:List ExprD):Nat:=(l.map fun x=>(partsL x).length).sum
theorem toGo_le (m:ModelD) (proc:Nat) (seen:List Int):toGo m proc seen≤partsN m.exprs:=by
 unfold toGo partsN;generalize m.exprs=l
 induction l generalizing seen with
 | nil=>simp
 | cons x r ih=>
   cases seen with
   | nil=>simp
   | cons s t=>
     have:=ih t;simp only [List.zip_cons_cons,List.map_cons,List.sum_cons];split <;> omega
theorem toGo_set {m:ModelD} {proc q:Nat} {seen:List Int} {x:ExprD} {v:Int} (hx:m.exprs[q]? =some x) (hs:seen[q]? =some v) (hv:v≠ (proc:Int)+1):
 toGo m proc (seen.set q ((proc:Int)+1))+ (partsL x).length=toGo m proc seen:=by
 unfold toGo;generalize m.exprs=l at hx
 induction l generalizing seen q with
 | nil=>simp at hx
 | cons y r ih=>
   cases seen with
   | nil=>simp at hs
   | cons s t=>
     cases q with
     | zero=>
       simp only [List.getElem?_cons_zero,Option.some.injEq] at hx hs;subst hx hs;simp only [List.set_cons_zero,List.zip_cons_cons,List.map_cons,List.sum_cons,if_pos,if_neg hv];omega
     | succ q=>
       simp only [List.getElem?_cons_succ] at hx hs;have:=ih hs hx;simp only [List.set_cons_succ,List.zip_cons_cons,List.map_cons,List.sum_cons];omega
theorem takeAll_count {i:Nat}:∀ (l:List Int) (s:List Bool × Bool),i≤s.1.length→ (l.foldl (takePart i) s).2=true→s.2=true∧ (l.foldl (takePart i) s).1.count true=s.1.count true+l.length∧ (l.foldl (takePart i) s).1.length=s.1.length:=by
 intro l
 induction l with
 | nil=>intro s _ h;exact ⟨h,by simp,rfl⟩
 | cons q r ih=>
   intro s hi h;rw [List.foldl_cons] at h ⊢;have hlen: (takePart i s q).1.length=s.1.length:=by unfold takePart;split <;> simp
   obtain ⟨h1,h2,h3⟩:=ih _ (by rw [hlen];exact hi) h;rw [h2,h3];unfold takePart at h1 ⊢;split at h1
   · cases h1
   · rename_i hq
     rw [if_neg hq];have hg:s.1.getD q.toNat false=false:=by
      cases hg:s.1.getD q.toNat false
      · rfl
      · exact absurd (.inr (.inr hg)) hq
     have hl:q.toNat < s.1.length:=by
      have h5:¬ (q < 0∨ (i:Int)≤q):=fun h=>hq (by rcases h with h | h;exact .inl h;exact .inr (.inl h))
      omega
     have hf:s.1[q.toNat]=false:=by
      rw [List.getD_eq_getElem?_getD,List.getElem?_eq_getElem hl] at hg;exact hg
     refine ⟨h1, ?_,by simp⟩;rw [List.count_set hl,hf];simp;omega
theorem exprsGo_count {m:ModelD}:∀ (l:List ExprD) (i:Nat) (t:List Bool),i+l.length≤t.length→ (exprsGo m l i t).2=true→partsN l+t.count true≤t.length
 | [],_,t,_,_=>by have:=List.count_le_length (a:=true) (l:=t);simp [partsN];omega
 | x :: r,i,t,hi,h=>by
   rw [List.length_cons] at hi;unfold exprsGo at h;split at h
   · split at h
     · rename_i h2
       obtain ⟨-,h4,h5⟩:=takeAll_count (partsL x) (t,true) (by simp only;omega) h2;have:=exprsGo_count r (i+1) _ (by unfold takeAll;rw [h5];simp only;omega) h;unfold takeAll at this;rw [h4,h5] at this;simp only at this;have e:partsN (x :: r)= (partsL x).length+partsN r:=by unfold partsN;simp
       rw [e];omega
     · cases h
   · cases h
structure EX (m:ModelD):Prop where
 le:m.exprs.length≤4096
 ok:∀ (k:Nat) (x:ExprD),m.exprs[k]? =some x→exprB m x=true∧∀p ∈ partsL x,0≤p∧p < (k:Int)
 sum:partsN m.exprs≤4096
theorem EX.of {m:ModelD} (h: (expressionsL m).2=true):EX m:=by
 unfold expressionsL at h;split at h
 · cases h
 · rename_i hh
   have hl:m.exprs.length≤4096:=by
    unfold exprsHead at hh;rw [decide_eq_true_eq] at hh;omega
   refine ⟨hl,fun k x hx=> ?_, ?_⟩
   · obtain ⟨hk,rfl⟩:=List.getElem?_eq_some_iff.1 hx;have:=exprsGo_ok _ _ _ h k hk;rw [Nat.zero_add] at this;exact this
   · have:=exprsGo_count _ _ _ (by rw [List.length_replicate];omega) h;rw [List.length_replicate] at this;omega
theorem usesF_nil {m:ModelD} {proc f:Nat} {seen:List Int}:usesF m proc (f+1) seen []= (true,seen):=rfl
theorem usesF_seen {m:ModelD} {proc f q:Nat} {seen l:List Int} (h:seen[q]? =some ((proc:Int)+1)):usesF m proc (f+1) seen (l ++ [(q:Int)])=usesF m proc f seen l:=by
 rw [usesF,List.getLast?_concat];simp [h]
theorem usesF_no {m:ModelD} {proc f q:Nat} {seen l:List Int} {x:ExprD} (h:seen[q]? ≠some ((proc:Int)+1)) (hx:m.exprs[q]? =some x) (hu:useB m proc x=false):usesF m proc (f+1) seen (l ++ [(q:Int)])= (false,seen.set q ((proc:Int)+1)):=by
 rw [usesF,List.getLast?_concat];simp [h,hx,hu]
theorem usesF_yes {m:ModelD} {proc f q:Nat} {seen l:List Int} {x:ExprD} (h:seen[q]? ≠some ((proc:Int)+1)) (hx:m.exprs[q]? =some x) (hu:useB m proc x=true):usesF m proc (f+1) seen (l ++ [(q:Int)])=usesF m proc f (seen.set q ((proc:Int)+1)) (l ++ partsL x):=by
 rw [usesF,List.getLast?_concat];simp [h,hx,hu]
end Go.Proofs.YtnoibjahliafpaaDoor
