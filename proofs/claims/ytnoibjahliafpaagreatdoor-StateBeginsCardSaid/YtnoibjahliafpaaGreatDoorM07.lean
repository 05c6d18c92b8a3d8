/- May a channel be, may a process? -/
import Derived.Test.YtnoibjahliafpaaGreatDoorM06
import Derived.BigQuiet
import Derived.Test.YtnoibjahliafpaaGreatDoorM04
import Derived.Deep.RegionHeld3
import Derived.Lib.SmallJoins
set_option linter.unusedVariables false
set_option linter.unusedSimpArgs false
namespace Go.Proofs.YtnoibjahliafpaaGreatDoor
open Go.ChangeShapes Go.WideShapes Go.ChangeAt Go.RowKit
set_option maxHeartbeats 4000000 in
set_option maxRecDepth 100000 in
theorem chanMayC {B pm g a:Nat} {h:MH} {m:ModelD} {c:ChanD} (w:World) (hk:Ck B w pm h m) (hc:chanAt B w g a c) (hg:g < B):
 Calls Tryz.prog 60 #[.pointer (some ⟨pm,0,none⟩),.pointer (some ⟨g,a,none⟩)] w fun e w'=>e= .returned (.bool (chanMayB m c))∧Below w.heap.size w w':=by
 have HK:=Lib.hid hk;have HC:=Lib.hid hc;have hB:B≤w.heap.size:=by have:=hk.le;have:=hk.lt;omega
 have c2:=hk.c2;have q0:=hc.c0;obtain ⟨qo,qc,q1,hq⟩:=hc.queue;have HQ:=Lib.hid hq;have hql:=hq.1;have hsl:=hk.md.shapes.1;clear hk hc hq;by_cases s0:c.shape < 0
 · have d0:decide (c.shape < 0)=true:=decide_eq_true s0;have HV:Hid (chanMayB m c=false):=Lib.hid (by unfold chanMayB chanHeadB;rw [decide_eq_false (by omega)];rfl);clear s0;go_enter Tryz.func60,Tryz.ntmps60;go_wp2_with fail;go_quiet (fail);go_wp2_with fail;go_ret;exact ⟨retB HV.out.symm,bdrew (Below.refl _ _) _⟩
 · have d0:decide (c.shape < 0)=false:=decide_eq_false s0;by_cases s1: (m.shapes.length:Int)≤c.shape
   · have d1:decide ((m.shapes.length:Int)≤c.shape)=true:=decide_eq_true s1;have HV:Hid (chanMayB m c=false):=Lib.hid (by unfold chanMayB chanHeadB;rw [decide_eq_false (by omega)];rfl);clear s0 s1;go_enter Tryz.func60,Tryz.ntmps60;go_wp2_with fail;go_quiet (fail);go_wp2_with fail;go_ret;exact ⟨retB HV.out.symm,bdrew (Below.refl _ _) _⟩
   · have d1:decide ((m.shapes.length:Int)≤c.shape)=false:=decide_eq_false s1;obtain ⟨k,hk⟩:∃k:Nat,c.shape=k:=⟨c.shape.toNat,by omega⟩;rw [hk] at q0 d0 d1;have hkl:k < m.shapes.length:=by omega
     have d1n:decide (m.shapes.length≤k)=false:=decide_eq_false (by omega);have hki: (k:Int) < m.shapes.length:=by omega
     have hkz: (0:Int)≤k:=by omega
     obtain ⟨s,hs⟩:∃s,m.shapes[k]? =some s:=⟨_,List.getElem?_eq_getElem hkl⟩;have HV:Hid (chanMayB m c= (decide ((c.queue.length:Int)≤s.room) && c.queue.all (fitsL s.fields))):=Lib.hid (by unfold chanMayB chanHeadB chanFB;rw [hk,decide_eq_true (by omega),Int.toNat_natCast,hs];rfl);obtain ⟨g3,off3,ho3,hg3,hsa⟩:=HK.out.md.shapes.get hs;have r0:=hsa.c0;rw [ho3] at c2;obtain ⟨fo,fc,r1,hf⟩:=hsa.fields;have HF:=Lib.hid hf;clear hf hsa ho3 hs hk s0 s1;by_cases s2:s.room < (c.queue.length:Int)
     · have d2:decide (s.room < (c.queue.length:Int))=true:=decide_eq_true s2;have HZ:Hid (chanMayB m c=false):=Lib.hid (by rw [HV.out,decide_eq_false (by omega)];rfl);clear s2;go_enter Tryz.func60,Tryz.ntmps60;go_wp2_with fail;go_quiet (fail);go_wp2_with fail;go_ret;exact ⟨retB HZ.out.symm,bdrew (Below.refl _ _) _⟩
     · have d2:decide (s.room < (c.queue.length:Int))=false:=decide_eq_false s2;have HZ:Hid (chanMayB m c=c.queue.all (fitsL s.fields)):=Lib.hid (by rw [HV.out,decide_eq_true (by omega)];rfl);clear s2;have HCE:Hid (∀W,Below w.heap.size w W→W.cell? ⟨pm,2,none⟩=some (.slice (some ⟨g3,off3,none⟩) m.shapes.length h.sc)∧W.cell? ⟨g,a,none⟩=some (.int .i64 k)∧W.cell? ⟨g,a+1,none⟩=some (.slice qo c.queue.length qc)∧W.cell? ⟨g3,off3+k*2+1,none⟩=some (.slice fo s.fields.length fc)∧Row B fo 2 (tyAt W) s.fields∧Row B qo 1 (msgAt B W) c.queue):=Lib.hid fun W hb=>
        ⟨(hb.cell HK.out.lt).trans c2,(hb.cell (by show g < _;omega)).trans q0,(hb.cell (by show g < _;omega)).trans q1,(hb.cell (by show g3 < _;omega)).trans r1,HF.out.mono fun _ _ _ hg=>tyAt.below (hb.mono hB) hg,HQ.out.mono fun _ _ _ hg=>msgAt.below (hb.mono hB) hg⟩
       go_enter Tryz.func60,Tryz.ntmps60;go_wp2_with fail;go_quiet (fail);have HB0:Hid (Below w.heap.size w (w.drewN nq)):=Lib.hid (bdrew (Below.refl _ _) nq);generalize w.drewN nq=W0 at HB0 ⊢;clear c2 q0 q1 r0 r1 d0 d1 d2 d1n;have q1:=(HCE.out _ HB0.out).2.2.1;go_wp2_with fail;clear q1
       go_loopw [48] (fun iv W=>∃i:Nat,iv= .int .i64 i∧i≤c.queue.length∧Hid (∀j (hj:j < c.queue.length),j < i→fitsL s.fields c.queue[j]=true)∧Hid (Below w.heap.size w W)) (fun iv _=>c.queue.length - (intOf iv).toNat)
       case atStart=>exact ⟨0,rfl,by omega,Lib.hid fun j _ h=>by omega,HB0⟩
       case round=>
        clear HB0;obtain ⟨i,rfl,hi,HJ,HB⟩:=hrel;have hi0: (0:Int)≤i:=by omega
        by_cases hlt:i < c.queue.length
        · have hlti: (i:Int) < c.queue.length:=by omega
          have hce:=HCE.out _ HB.out;obtain ⟨gq,offq,hoq,hgq,ms,mc,e0,hms⟩:=hce.2.2.2.2.2.cell hlt;obtain ⟨msg,hmsg⟩:∃x,c.queue[i]=x:=⟨_,rfl⟩;rw [hmsg] at e0 hms;rw [Nat.mul_one] at e0;have HMS:=Lib.hid hms;have c2:=hce.1;have q0:=hce.2.1;have r1:=hce.2.2.2.1;have HBAD:Hid (fitsL s.fields msg=false→chanMayB m c=false):=Lib.hid fun h=>by rw [HZ.out,all_bad hlt (by rw [hmsg];exact h)]
          have HGO:Hid (fitsL s.fields msg=true→∀j (hj:j < c.queue.length),j < i+1→fitsL s.fields c.queue[j]=true):=Lib.hid fun h j hj hjk=>by
           by_cases e:j=i
           · subst e;rw [hmsg];exact h
           · exact HJ.out j hj (by omega)
          subst hoq;clear hce hms hmsg hgq;go_wp2_with fail;go_still_tail 12,(by kernel_rfl);change wpList _ _ _ _ _ wr.drew;have HB2:Hid (Below w.heap.size w wr.drew):=Lib.hid HB.out.drew;have HM2:Hid (Row B ms 1 (intAt wr.drew) msg):=Lib.hid (HMS.out.mono fun _ _ _ hg=>intAt.below (Below.refl _ _).drew hg);generalize wr.drew=W2 at HB2 HM2 ⊢;clear c2 q0 r1 e0;go_wp2_with fail;refine (sfitsC s.fields msg fo ms fc mc W2 (by have:=HB2.out.size;omega) (HCE.out _ HB2.out).2.2.2.2.1 HM2.out).mono ?_;rintro e W3 ⟨rfl,hb3⟩;have HB3:=Lib.hid (HB2.out.trans (hb3.mono HB2.out.size));clear hb3;obtain ⟨u,hu⟩:∃u,fitsL s.fields msg=u:=⟨_,rfl⟩;rw [hu];have HU:=Lib.hid hu;clear hu;cases u
          · have HZ2:=Lib.hid (HBAD.out HU.out);go_wp2_with fail;go_ret;exact ⟨retB HZ2.out.symm,HB3.out⟩
          · have HZ2:=Lib.hid (HGO.out HU.out);go_wp2_with fail;go_roundw;case rel=>exact ⟨i+1,by go_num,by omega,HZ2,HB3⟩
            case measure=>simp [intOf];omega
        · have hlti:¬ (i:Int) < c.queue.length:=by omega
          have HA:Hid (chanMayB m c=true):=Lib.hid (by rw [HZ.out];exact all_of fun j hj=>HJ.out j hj (by omega));go_wp2_with fail;go_ret;exact ⟨retB HA.out.symm,HB.out⟩
set_option maxHeartbeats 4000000 in
set_option maxRecDepth 100000 in
theorem processMayC {B pm g a:Nat} {h:MH} {m:ModelD} {c:ProcessD} (w:World) (hk:Ck B w pm h m) (hc:processAt B w g a c) (hg:g < B):
 Calls Tryz.prog 61 #[.pointer (some ⟨pm,0,none⟩),.pointer (some ⟨g,a,none⟩)] w fun e w'=>e= .returned (.bool (procMayB m c))∧Below w.heap.size w w':=by
 have HK:=Lib.hid hk;have hB:B≤w.heap.size:=by have:=hk.le;have:=hk.lt;omega
 have c4:=hk.c4;have c5:=hk.c5;have q0:=hc.c0;have q1:=hc.c1;have q2:=hc.c2;obtain ⟨qo,qc,q3,hq⟩:=hc.frame;have HQ:=Lib.hid hq;have hql:=hq.1;have hsl:=hk.md.procs.1;clear hk hc hq;by_cases s0:c.type < 0
 · have d0:decide (c.type < 0)=true:=decide_eq_true s0;have HV:Hid (procMayB m c=false):=Lib.hid (by unfold procMayB procHeadB;rw [decide_eq_false (by omega)];rfl);clear s0;go_enter Tryz.func61,Tryz.ntmps61;go_wp2_with fail;go_quiet (fail);go_wp2_with fail;go_ret;exact ⟨retB HV.out.symm,bdrew (Below.refl _ _) _⟩
 · have d0:decide (c.type < 0)=false:=decide_eq_false s0;by_cases s1: (m.procs.length:Int)≤c.type
   · have d1:decide ((m.procs.length:Int)≤c.type)=true:=decide_eq_true s1;have HV:Hid (procMayB m c=false):=Lib.hid (by unfold procMayB procHeadB;rw [decide_eq_false (by omega)];rfl);clear s0 s1;go_enter Tryz.func61,Tryz.ntmps61;go_wp2_with fail;go_quiet (fail);go_wp2_with fail;go_ret;exact ⟨retB HV.out.symm,bdrew (Below.refl _ _) _⟩
   · have d1:decide ((m.procs.length:Int)≤c.type)=false:=decide_eq_false s1;by_cases s2:c.type=m.claim
     · have d2: (c.type == m.claim)=true:=by rw [beq_iff_eq];exact s2
       have HV:Hid (procMayB m c=false):=Lib.hid (by unfold procMayB procHeadB;rw [decide_eq_false (by omega)];rfl);clear s0 s1 s2;go_enter Tryz.func61,Tryz.ntmps61;go_wp2_with fail;go_quiet (fail);go_wp2_with fail;go_ret;exact ⟨retB HV.out.symm,bdrew (Below.refl _ _) _⟩
     · have d2: (c.type == m.claim)=false:=by rw [beq_eq_false_iff_ne];exact s2
       obtain ⟨k,hk⟩:∃k:Nat,c.type=k:=⟨c.type.toNat,by omega⟩;have hkl:k < m.procs.length:=by omega
       have hki: (k:Int) < m.procs.length:=by omega
       have hkz: (0:Int)≤k:=by omega
       obtain ⟨t,hs⟩:∃s,m.procs[k]? =some s:=⟨_,List.getElem?_eq_getElem hkl⟩;have HV:Hid (procMayB m c= (decide (0≤c.loc∧c.loc < t.locs.length∧c.prio=t.prio) && fitsL t.frame c.frame)):=Lib.hid (by unfold procMayB procHeadB procFB;rw [decide_eq_true (by omega),hk,Int.toNat_natCast,hs];rfl);rw [hk] at q0 d0 d1 d2;obtain ⟨g3,off3,ho3,hg3,hsa⟩:=HK.out.md.procs.get hs;rw [ho3] at c4;obtain ⟨fo,fc,r2,hf⟩:=hsa.frame;obtain ⟨lo,lc,r4,hlr⟩:=hsa.locs;have r8:=hsa.c8;have HF:=Lib.hid hf;have hll:=hlr.1;clear hf hsa ho3 hs hk s0 s1 s2 hlr;by_cases s3:0≤c.loc
       · have d3:decide (0≤c.loc)=true:=decide_eq_true s3;by_cases s4:c.loc < (t.locs.length:Int)
         · have d4:decide (c.loc < (t.locs.length:Int))=true:=decide_eq_true s4;by_cases s5:c.prio=t.prio
           · have d5: (c.prio == t.prio)=true:=by rw [beq_iff_eq];exact s5
             have HZ:Hid (procMayB m c=fitsL t.frame c.frame):=Lib.hid (by rw [HV.out,decide_eq_true ⟨s3,s4,s5⟩];rfl);clear s3 s4 s5;go_enter Tryz.func61,Tryz.ntmps61;go_wp2_with fail;go_quiet (fail);have HB0:Hid (Below w.heap.size w (w.drewN nq)):=Lib.hid (bdrew (Below.refl _ _) nq);have HCE:Hid (∀W,Below w.heap.size w W→W.cell? ⟨pm,4,none⟩=some (.slice (some ⟨g3,off3,none⟩) m.procs.length h.pc)∧W.cell? ⟨g,a,none⟩=some (.int .i64 k)∧W.cell? ⟨g,a+1,none⟩=some (.int .i64 c.loc)∧W.cell? ⟨g,a+2,none⟩=some (.int .i64 c.prio)∧W.cell? ⟨g,a+3,none⟩=some (.slice qo c.frame.length qc)∧W.cell? ⟨g3,off3+k*10+2,none⟩=some (.slice fo t.frame.length fc)∧W.cell? ⟨g3,off3+k*10+4,none⟩=some (.slice lo t.locs.length lc)∧W.cell? ⟨g3,off3+k*10+8,none⟩=some (.int .i64 t.prio)∧Row B fo 2 (tyAt W) t.frame∧Row B qo 1 (intAt W) c.frame):=Lib.hid fun W hb=>
              ⟨(hb.cell HK.out.lt).trans c4,(hb.cell (by show g < _;omega)).trans q0,(hb.cell (by show g < _;omega)).trans q1,(hb.cell (by show g < _;omega)).trans q2,(hb.cell (by show g < _;omega)).trans q3,(hb.cell (by show g3 < _;omega)).trans r2,(hb.cell (by show g3 < _;omega)).trans r4,(hb.cell (by show g3 < _;omega)).trans r8,HF.out.mono fun _ _ _ hg=>tyAt.below (hb.mono hB) hg,HQ.out.mono fun _ _ _ hg=>intAt.below (hb.mono hB) hg⟩
             generalize w.drewN nq=W0 at HB0 ⊢;clear c4 c5 q0 q1 q2 q3 r2 r4 r8 d0 d1 d2;obtain ⟨c4,q0,q1,q2,q3,r2,r4,r8,-,-⟩:=HCE.out _ HB0.out;go_wp2_with fail;go_quiet (fail);have HB1:Hid (Below w.heap.size w (W0.drewN nq)):=Lib.hid (bdrew HB0.out nq);generalize W0.drewN nq=W1 at HB1 ⊢;clear c4 q0 q1 q2 q3 r2 r4 r8;obtain ⟨c4,q0,q1,q2,q3,r2,r4,r8,-,-⟩:=HCE.out _ HB1.out;go_wp2_with fail;go_still_tail 37,(by kernel_rfl);change wpList _ _ _ _ _ W1.drew;have HB2:Hid (Below w.heap.size w W1.drew):=Lib.hid HB1.out.drew;generalize W1.drew=W2 at HB2 ⊢;clear c4 q0 q1 q2 q3 r2 r4 r8 d3 d4 d5;go_wp2_with fail;refine (sfitsC t.frame c.frame fo qo fc qc W2 (by have:=HB2.out.size;omega) (HCE.out _ HB2.out).2.2.2.2.2.2.2.2.1 (HCE.out _ HB2.out).2.2.2.2.2.2.2.2.2).mono ?_;rintro e W3 ⟨rfl,hb3⟩;have HB3:=Lib.hid (HB2.out.trans (hb3.mono HB2.out.size));clear hb3;go_wp2_with fail;go_ret;exact ⟨retB HZ.out.symm,HB3.out⟩
           · have d5: (c.prio == t.prio)=false:=by rw [beq_eq_false_iff_ne];exact s5
             have HZ:Hid (procMayB m c=false):=Lib.hid (by rw [HV.out,decide_eq_false (fun h=>s5 h.2.2)];rfl);clear s3 s4 s5;have HCE:Hid (∀W,Below w.heap.size w W→W.cell? ⟨pm,4,none⟩=some (.slice (some ⟨g3,off3,none⟩) m.procs.length h.pc)∧W.cell? ⟨g,a,none⟩=some (.int .i64 k)∧W.cell? ⟨g,a+1,none⟩=some (.int .i64 c.loc)∧W.cell? ⟨g,a+2,none⟩=some (.int .i64 c.prio)∧W.cell? ⟨g3,off3+k*10+4,none⟩=some (.slice lo t.locs.length lc)∧W.cell? ⟨g3,off3+k*10+8,none⟩=some (.int .i64 t.prio)):=Lib.hid fun W hb=>
              ⟨(hb.cell HK.out.lt).trans c4,(hb.cell (by show g < _;omega)).trans q0,(hb.cell (by show g < _;omega)).trans q1,(hb.cell (by show g < _;omega)).trans q2,(hb.cell (by show g3 < _;omega)).trans r4,(hb.cell (by show g3 < _;omega)).trans r8⟩
             go_enter Tryz.func61,Tryz.ntmps61;go_wp2_with fail;go_quiet (fail);have HB0:Hid (Below w.heap.size w (w.drewN nq)):=Lib.hid (bdrew (Below.refl _ _) nq);generalize w.drewN nq=W0 at HB0 ⊢;clear c4 c5 q0 q1 q2 q3 r2 r4 r8 d0 d1 d2;obtain ⟨c4,q0,q1,q2,r4,r8⟩:=HCE.out _ HB0.out;go_wp2_with fail;go_quiet (fail);have HB1:Hid (Below w.heap.size w (W0.drewN nq)):=Lib.hid (bdrew HB0.out nq);generalize W0.drewN nq=W1 at HB1 ⊢;clear c4 q0 q1 q2 r4 r8;obtain ⟨c4,q0,q1,q2,r4,r8⟩:=HCE.out _ HB1.out;go_wp2_with fail;go_quiet (fail);go_wp2_with fail;go_ret;exact ⟨retB HZ.out.symm,bdrew HB1.out _⟩
         · have d4:decide (c.loc < (t.locs.length:Int))=false:=decide_eq_false s4;have HZ:Hid (procMayB m c=false):=Lib.hid (by rw [HV.out,decide_eq_false (fun h=>s4 h.2.1)];rfl);clear s3 s4;have HCE:Hid (∀W,Below w.heap.size w W→W.cell? ⟨pm,4,none⟩=some (.slice (some ⟨g3,off3,none⟩) m.procs.length h.pc)∧W.cell? ⟨g,a,none⟩=some (.int .i64 k)∧W.cell? ⟨g,a+1,none⟩=some (.int .i64 c.loc)∧W.cell? ⟨g,a+2,none⟩=some (.int .i64 c.prio)∧W.cell? ⟨g3,off3+k*10+4,none⟩=some (.slice lo t.locs.length lc)∧W.cell? ⟨g3,off3+k*10+8,none⟩=some (.int .i64 t.prio)):=Lib.hid fun W hb=>
            ⟨(hb.cell HK.out.lt).trans c4,(hb.cell (by show g < _;omega)).trans q0,(hb.cell (by show g < _;omega)).trans q1,(hb.cell (by show g < _;omega)).trans q2,(hb.cell (by show g3 < _;omega)).trans r4,(hb.cell (by show g3 < _;omega)).trans r8⟩
           go_enter Tryz.func61,Tryz.ntmps61;go_wp2_with fail;go_quiet (fail);have HB0:Hid (Below w.heap.size w (w.drewN nq)):=Lib.hid (bdrew (Below.refl _ _) nq);generalize w.drewN nq=W0 at HB0 ⊢;clear c4 c5 q0 q1 q2 q3 r2 r4 r8 d0 d1 d2;obtain ⟨c4,q0,q1,q2,r4,r8⟩:=HCE.out _ HB0.out;go_wp2_with fail;go_quiet (fail);have HB1:Hid (Below w.heap.size w (W0.drewN nq)):=Lib.hid (bdrew HB0.out nq);generalize W0.drewN nq=W1 at HB1 ⊢;clear c4 q0 q1 q2 r4 r8;obtain ⟨c4,q0,q1,q2,r4,r8⟩:=HCE.out _ HB1.out;go_wp2_with fail;go_quiet (fail);go_wp2_with fail;go_ret;exact ⟨retB HZ.out.symm,bdrew HB1.out _⟩
       · have d3:decide (0≤c.loc)=false:=decide_eq_false s3;have HZ:Hid (procMayB m c=false):=Lib.hid (by rw [HV.out,decide_eq_false (fun h=>s3 h.1)];rfl);clear s3;have HCE:Hid (∀W,Below w.heap.size w W→W.cell? ⟨pm,4,none⟩=some (.slice (some ⟨g3,off3,none⟩) m.procs.length h.pc)∧W.cell? ⟨g,a,none⟩=some (.int .i64 k)∧W.cell? ⟨g,a+1,none⟩=some (.int .i64 c.loc)∧W.cell? ⟨g,a+2,none⟩=some (.int .i64 c.prio)∧W.cell? ⟨g3,off3+k*10+4,none⟩=some (.slice lo t.locs.length lc)∧W.cell? ⟨g3,off3+k*10+8,none⟩=some (.int .i64 t.prio)):=Lib.hid fun W hb=>
          ⟨(hb.cell HK.out.lt).trans c4,(hb.cell (by show g < _;omega)).trans q0,(hb.cell (by show g < _;omega)).trans q1,(hb.cell (by show g < _;omega)).trans q2,(hb.cell (by show g3 < _;omega)).trans r4,(hb.cell (by show g3 < _;omega)).trans r8⟩
         go_enter Tryz.func61,Tryz.ntmps61;go_wp2_with fail;go_quiet (fail);have HB0:Hid (Below w.heap.size w (w.drewN nq)):=Lib.hid (bdrew (Below.refl _ _) nq);generalize w.drewN nq=W0 at HB0 ⊢;clear c4 c5 q0 q1 q2 q3 r2 r4 r8 d0 d1 d2;obtain ⟨c4,q0,q1,q2,r4,r8⟩:=HCE.out _ HB0.out;go_wp2_with fail;go_quiet (fail);have HB1:Hid (Below w.heap.size w (W0.drewN nq)):=Lib.hid (bdrew HB0.out nq);generalize W0.drewN nq=W1 at HB1 ⊢;clear c4 q0 q1 q2 r4 r8;obtain ⟨c4,q0,q1,q2,r4,r8⟩:=HCE.out _ HB1.out;go_wp2_with fail;go_quiet (fail);go_wp2_with fail;go_ret;exact ⟨retB HZ.out.symm,bdrew HB1.out _⟩
end Go.Proofs.YtnoibjahliafpaaGreatDoor
namespace Go.Proofs.YtnoibjahliafpaaGreatDoor
open Go.ChangeShapes Go.WideShapes Go.ChangeAt Go.RowKit
theorem partsOf_le (op:Int):partsOf op≤3:=by unfold partsOf;(repeat' split) <;> omega
structure XC (w:World) (g a:Nat) (x:ExprD) (o1:Option Addr) (p1:Nat) (o2:Option Addr) (p2:Nat) (o3:Option Addr) (p3:Nat):Prop where
 c0:w.cell? ⟨g,a,none⟩=some (.int .i64 x.op)
 c1:w.cell? ⟨g,a+1,none⟩=some (.int .i64 x.n)
 c2:w.cell? ⟨g,a+2,none⟩=some (.int .i64 x.a)
 c3:w.cell? ⟨g,a+3,none⟩=some (.int .i64 x.b)
 c4:w.cell? ⟨g,a+4,none⟩=some (.int .i64 x.c)
 v0:w.cell? ⟨g,a+5,none⟩=some (.int .i64 x.v.scope)
 v1:w.cell? ⟨g,a+5+1,none⟩=some (.int .i64 x.v.slot)
 v2:w.cell? ⟨g,a+5+2,none⟩=some (.int .i64 x.v.who)
 v3:w.cell? ⟨g,a+5+3,none⟩=some (.int .i64 x.v.type)
 v4:w.cell? ⟨g,a+5+4,none⟩=some (.slice o1 x.v.dims.length p1)
 c6:w.cell? ⟨g,a+10,none⟩=some (.slice o2 x.args.length p2)
 c7:w.cell? ⟨g,a+11,none⟩=some (.slice o3 x.mat.length p3)
theorem exprAt.xc {B g a:Nat} {w:World} {x:ExprD} (h:exprAt B w g a x):∃o1 p1 o2 p2 o3 p3,XC w g a x o1 p1 o2 p2 o3 p3∧Row B o1 3 (dimAt w) x.v.dims∧Row B o2 1 (intAt w) x.args∧Row B o3 1 (intAt w) x.mat:=by
 obtain ⟨o1,p1,d1,d2⟩:=h.v.dims;obtain ⟨o2,p2,a1,a2⟩:=h.args;obtain ⟨o3,p3,m1,m2⟩:=h.mat;exact ⟨o1,p1,o2,p2,o3,p3,⟨h.c0,h.c1,h.c2,h.c3,h.c4,h.v.c0,h.v.c1,h.v.c2,h.v.c3,d1,a1,m1⟩,d2,a2,m2⟩
theorem XC.below {B g a:Nat} {w w':World} {x:ExprD} {o1 o2 o3:Option Addr} {p1 p2 p3:Nat} (h:XC w g a x o1 p1 o2 p2 o3 p3) (hg:g < B) (hb:Below B w w'):XC w' g a x o1 p1 o2 p2 o3 p3:=
 ⟨(hb.cell hg).trans h.c0,(hb.cell hg).trans h.c1,(hb.cell hg).trans h.c2,(hb.cell hg).trans h.c3,(hb.cell hg).trans h.c4,(hb.cell hg).trans h.v0,(hb.cell hg).trans h.v1,(hb.cell hg).trans h.v2,(hb.cell hg).trans h.v3,(hb.cell hg).trans h.v4,(hb.cell hg).trans h.c6,(hb.cell hg).trans h.c7⟩
set_option maxRecDepth 100000 in
theorem expr_range {B p g a:Nat} {h:MH} {m:ModelD} {x:ExprD} (w:World) (hk:Ck B w p h m) (hx:exprAt B w g a x) (hg:g < B) (hbad:x.op < 1∨39 < x.op):
 Calls Tryz.prog 93 #[.pointer (some ⟨p,0,none⟩),.pointer (some ⟨g,a,none⟩)] w fun e w'=>e= .returned (.bool (exprB m x))∧Below w.heap.size w w':=by
 have HV:Hid (exprB m x=false):=Lib.hid (by unfold exprB;rw [decide_eq_false (by omega)];rfl);have c0:=hx.c0;clear hx hk;go_enter Tryz.func93,Tryz.ntmps93;go_wp2
 all_goals first | (exfalso;omega) | (go_ret;exact ⟨retB HV.out.symm,Below.refl _ _⟩)
theorem abc_at {w W:World} {x:ExprD} (h:Bx w #[.int .i64 x.a,.int .i64 x.b,.int .i64 x.c] 184 W) {k:Nat} (hk:k < 3):∃q,W.cell? ⟨w.heap.size,k,none⟩=some (.int .i64 q)∧ (abcL x)[k]? =some q:=by
 match k,hk with
 | 0,_=>exact ⟨x.a,h.cell rfl,rfl⟩
 | 1,_=>exact ⟨x.b,h.cell rfl,rfl⟩
 | 2,_=>exact ⟨x.c,h.cell rfl,rfl⟩
theorem rest_bad {x:ExprD} {k:Nat} {q:Int} (hk:partsOf x.op≤k) (h: (abcL x)[k]? =some q) (hq:q≠ -1):restB x=false:=by
 unfold restB;rw [List.all_eq_false];refine ⟨q, ?_,by simpa using hq⟩;rw [List.mem_iff_getElem?];exact ⟨k - partsOf x.op,by rw [List.getElem?_drop,show partsOf x.op+ (k - partsOf x.op)=k by omega];exact h⟩
theorem rest_ok {x:ExprD} (h:∀k q,partsOf x.op≤k→k < 3→ (abcL x)[k]? =some q→q= -1):restB x=true:=by
 unfold restB;rw [List.all_eq_true];intro q hq;obtain ⟨i,hi⟩:=List.mem_iff_getElem?.1 hq;rw [List.getElem?_drop] at hi;have h3:=(List.getElem?_eq_some_iff.1 hi).1;have:=h (partsOf x.op+i) q (by omega) (by simpa [abcL] using h3) hi;simp [this]
set_option maxHeartbeats 1000000 in
set_option maxRecDepth 100000 in
theorem expr_rest {B p g a:Nat} {h:MH} {m:ModelD} {x:ExprD} (w:World) (hk:Ck B w p h m) (hx:exprAt B w g a x) (hg:g < B) (hok:1≤x.op∧x.op≤39) (hrest:restB x=false):
 Calls Tryz.prog 93 #[.pointer (some ⟨p,0,none⟩),.pointer (some ⟨g,a,none⟩)] w fun e w'=>e= .returned (.bool (exprB m x))∧Below w.heap.size w w':=by
 have HK:=Lib.hid hk;obtain ⟨o1,p1,o2,p2,o3,p3,hxc,hd1,hd2,hd3⟩:=hx.xc;have HXC:=Lib.hid hxc;have HD:=Lib.hid (And.intro hd1 (And.intro hd2 hd3));have hgw:g < w.heap.size:=by have:=hk.le;have:=hk.lt;omega
 have HR:=Lib.hid hrest;obtain ⟨k1,k2⟩:=hok;have c0:=hxc.c0;have HS:Hid (∀w',Below w.heap.size w w'→ (Below w.heap.size w w'∧w'.cell? ⟨g,a+2,none⟩=some (.int .i64 x.a)∧w'.cell? ⟨g,a+3,none⟩=some (.int .i64 x.b)∧w'.cell? ⟨g,a+4,none⟩=some (.int .i64 x.c))):=Lib.hid fun w' hb=>
  have h:=HXC.out.below hgw hb
  ⟨hb,h.c2,h.c3,h.c4⟩
 clear hxc hd1 hd2 hd3 hx hk hrest;go_enter Tryz.func93,Tryz.ntmps93;go_wp2_with fail
 go_region_held3 (fun w'=>Below w.heap.size w w'∧w'.cell? ⟨g,a+2,none⟩=some (.int .i64 x.a)∧w'.cell? ⟨g,a+3,none⟩=some (.int .i64 x.b)∧w'.cell? ⟨g,a+4,none⟩=some (.int .i64 x.c))
  (first | assumption | with_reducible exact HS.out _ (Below.refl _ _).drew | with_reducible exact HS.out _ (by assumption) | with_reducible exact HS.out _ (Below.alloc (And.left (by assumption)) (Below.size (And.left (by assumption))) _) | with_reducible exact HS.out _ (Below.drew (Below.alloc (Below.refl _ _) (Nat.le_refl _) _)))
  (fail)
 have HX:Hid (Bx w #[.int .i64 x.a,.int .i64 x.b,.int .i64 x.c] 184 (w.alloc (Obj.cells #[.int .i64 x.a,.int .i64 x.b,.int .i64 x.c] 184)).drew):=Lib.hid ((Bx.new w _ _).below (Below.refl _ _).drew);generalize (w.alloc (Obj.cells #[.int .i64 x.a,.int .i64 x.b,.int .i64 x.c] 184)).drew=W at HX ⊢;have HW:=Lib.hid (HXC.out.below hgw HX.out.bel);have HKW:=Lib.hid (HK.out.bx HX.out);have d0:=HW.out.c0;have d1:=HW.out.c1;clear HS c0;go_wp2_with fail;refine (partsOfC x.op W).mono ?_;rintro e w' ⟨rfl,rfl⟩;have hp3:=partsOf_le x.op;go_wp2_with fail
 go_loop [6] (fun iv=>∃k:Nat,iv= .int .i64 k∧partsOf x.op≤k∧k≤3∧Hid (∀j q,partsOf x.op≤j→j < k→ (abcL x)[j]? =some q→q= -1)) (fun iv=>3 - (intOf iv).toNat)
 case atStart=>exact ⟨partsOf x.op,rfl,Nat.le_refl _,hp3,Lib.hid fun j q h1 h2=>by omega⟩
 case round=>
  obtain ⟨k,rfl,hk1,hk2,HJ⟩:=hrel;have hk0: (0:Int)≤k:=by omega
  by_cases hlt:k < 3
  · have hlti: (k:Int) < 3:=by omega
    obtain ⟨q,hq1,hq2⟩:=abc_at HX.out hlt;have HQ:=Lib.hid hq2;clear hq2;by_cases hqe:q= -1
    · have hqb: (q != -1)=false:=by simp [hqe]
      have HQE:=Lib.hid hqe;clear hqe;go_wp2_with fail;go_round;case rel=>exact ⟨k+1,by go_num,by omega,by omega,Lib.hid fun j u h1 h2 h3=>by
       by_cases e:j=k
       · subst e;rw [HQ.out] at h3;injection h3 with h3
         rw [←h3,HQE.out]
       · exact HJ.out j u h1 (by omega) h3⟩
      case measure=>simp [intOf];omega
    · have HF:=Lib.hid (rest_bad hk1 HQ.out hqe);have hqb: (q != -1)=true:=by simp [hqe]
      clear hqe;go_wp2_with fail;go_ret;exact ⟨retB (by unfold exprB;rw [HF.out];simp),HX.out.bel⟩
  · have hlti:¬ (k:Int) < 3:=by omega
    have HOK:=Lib.hid (rest_ok fun j q h1 h2 h3=>HJ.out j q h1 (by omega) h3);clear hk0 hk1 hk2 HJ hp3;exact absurd (HOK.out.symm.trans HR.out) (by decide)
set_option maxHeartbeats 1000000 in
set_option maxRecDepth 100000 in
theorem expr_num {B p g a:Nat} {h:MH} {m:ModelD} {x:ExprD} (w:World) (hk:Ck B w p h m) (hx:exprAt B w g a x) (hg:g < B) (hok:1≤x.op∧x.op≤39) (hrest:restB x=true) (hop:x.op=1):
 Calls Tryz.prog 93 #[.pointer (some ⟨p,0,none⟩),.pointer (some ⟨g,a,none⟩)] w fun e w'=>e= .returned (.bool (kindB m x))∧Below w.heap.size w w':=by
 have HK:=Lib.hid hk;obtain ⟨o1,p1,o2,p2,o3,p3,hxc,hd1,hd2,hd3⟩:=hx.xc;have HXC:=Lib.hid hxc;have HD:=Lib.hid (And.intro hd1 (And.intro hd2 hd3));have hgw:g < w.heap.size:=by have:=hk.le;have:=hk.lt;omega
 have HR:=Lib.hid hrest;have HV:Hid (kindB m x=fitB 32 true x.n):=Lib.hid (if_pos hop);have b1: (x.op == 1)=true:=by simp [hop]
 clear hop;obtain ⟨k1,k2⟩:=hok;have c0:=hxc.c0;have HS:Hid (∀w',Below w.heap.size w w'→ (Below w.heap.size w w'∧w'.cell? ⟨g,a+2,none⟩=some (.int .i64 x.a)∧w'.cell? ⟨g,a+3,none⟩=some (.int .i64 x.b)∧w'.cell? ⟨g,a+4,none⟩=some (.int .i64 x.c))):=Lib.hid fun w' hb=>
  have h:=HXC.out.below hgw hb
  ⟨hb,h.c2,h.c3,h.c4⟩
 clear hxc hd1 hd2 hd3 hx hk hrest;go_enter Tryz.func93,Tryz.ntmps93;go_wp2_with fail
 go_region_held3 (fun w'=>Below w.heap.size w w'∧w'.cell? ⟨g,a+2,none⟩=some (.int .i64 x.a)∧w'.cell? ⟨g,a+3,none⟩=some (.int .i64 x.b)∧w'.cell? ⟨g,a+4,none⟩=some (.int .i64 x.c))
  (first | assumption | with_reducible exact HS.out _ (Below.refl _ _).drew | with_reducible exact HS.out _ (by assumption) | with_reducible exact HS.out _ (Below.alloc (And.left (by assumption)) (Below.size (And.left (by assumption))) _) | with_reducible exact HS.out _ (Below.drew (Below.alloc (Below.refl _ _) (Nat.le_refl _) _)))
  (fail)
 have HX:Hid (Bx w #[.int .i64 x.a,.int .i64 x.b,.int .i64 x.c] 184 (w.alloc (Obj.cells #[.int .i64 x.a,.int .i64 x.b,.int .i64 x.c] 184)).drew):=Lib.hid ((Bx.new w _ _).below (Below.refl _ _).drew);generalize (w.alloc (Obj.cells #[.int .i64 x.a,.int .i64 x.b,.int .i64 x.c] 184)).drew=W at HX ⊢;have HW:=Lib.hid (HXC.out.below hgw HX.out.bel);have HKW:=Lib.hid (HK.out.bx HX.out);have d0:=HW.out.c0;have d1:=HW.out.c1;clear HS c0;go_wp2_with fail;refine (partsOfC x.op W).mono ?_;rintro e w' ⟨rfl,rfl⟩;have hp3:=partsOf_le x.op;go_wp2_with fail
 go_loop [6] (fun iv=>∃k:Nat,iv= .int .i64 k∧partsOf x.op≤k∧k≤3∧Hid (∀j q,partsOf x.op≤j→j < k→ (abcL x)[j]? =some q→q= -1)) (fun iv=>3 - (intOf iv).toNat)
 case atStart=>exact ⟨partsOf x.op,rfl,Nat.le_refl _,hp3,Lib.hid fun j q h1 h2=>by omega⟩
 case round=>
  obtain ⟨k,rfl,hk1,hk2,HJ⟩:=hrel;have hk0: (0:Int)≤k:=by omega
  by_cases hlt:k < 3
  · have hlti: (k:Int) < 3:=by omega
    obtain ⟨q,hq1,hq2⟩:=abc_at HX.out hlt;have HQ:=Lib.hid hq2;clear hq2;by_cases hqe:q= -1
    · have hqb: (q != -1)=false:=by simp [hqe]
      have HQE:=Lib.hid hqe;clear hqe;go_wp2_with fail;go_round;case rel=>exact ⟨k+1,by go_num,by omega,by omega,Lib.hid fun j u h1 h2 h3=>by
       by_cases e:j=k
       · subst e;rw [HQ.out] at h3;injection h3 with h3
         rw [←h3,HQE.out]
       · exact HJ.out j u h1 (by omega) h3⟩
      case measure=>simp [intOf];omega
    · have HF:=Lib.hid (rest_bad hk1 HQ.out hqe);have hqb: (q != -1)=true:=by simp [hqe]
      clear hqe;exact absurd (HF.out.symm.trans HR.out) (by decide)
  · have hlti:¬ (k:Int) < 3:=by omega
    have HOK:=Lib.hid (rest_ok fun j q h1 h2 h3=>HJ.out j q h1 (by omega) h3);clear hk0 hk1 hk2 HJ hp3;go_wp2_with fail;refine (fitsC 32 true x.n W).mono ?_;rintro e w' ⟨rfl,hb⟩;have HB:=Lib.hid (HX.out.bel.trans (hb.mono HX.out.bel.size));clear hb;go_wp2_with fail;go_ret;exact ⟨retB HV.out.symm,HB.out⟩
set_option maxHeartbeats 1000000 in
set_option maxRecDepth 100000 in
theorem expr_var {B p g a:Nat} {h:MH} {m:ModelD} {x:ExprD} (w:World) (hk:Ck B w p h m) (hx:exprAt B w g a x) (hg:g < B) (hok:1≤x.op∧x.op≤39) (hrest:restB x=true) (hop:x.op=2):
 Calls Tryz.prog 93 #[.pointer (some ⟨p,0,none⟩),.pointer (some ⟨g,a,none⟩)] w fun e w'=>e= .returned (.bool (kindB m x))∧Below w.heap.size w w':=by
 have HK:=Lib.hid hk;obtain ⟨o1,p1,o2,p2,o3,p3,hxc,hd1,hd2,hd3⟩:=hx.xc;have HXC:=Lib.hid hxc;have HD:=Lib.hid (And.intro hd1 (And.intro hd2 hd3));have hgw:g < w.heap.size:=by have:=hk.le;have:=hk.lt;omega
 have HR:=Lib.hid hrest;have HV:Hid (kindB m x=varB m x.v):=Lib.hid (by unfold kindB;rw [if_neg (by omega),if_pos hop]);have b1: (x.op == 1)=false:=by simp [hop]
 have b2: (x.op == 2)=true:=by simp [hop]
 clear hop;obtain ⟨k1,k2⟩:=hok;have c0:=hxc.c0;have HS:Hid (∀w',Below w.heap.size w w'→ (Below w.heap.size w w'∧w'.cell? ⟨g,a+2,none⟩=some (.int .i64 x.a)∧w'.cell? ⟨g,a+3,none⟩=some (.int .i64 x.b)∧w'.cell? ⟨g,a+4,none⟩=some (.int .i64 x.c))):=Lib.hid fun w' hb=>
  have h:=HXC.out.below hgw hb
  ⟨hb,h.c2,h.c3,h.c4⟩
 clear hxc hd1 hd2 hd3 hx hk hrest;go_enter Tryz.func93,Tryz.ntmps93;go_wp2_with fail
 go_region_held3 (fun w'=>Below w.heap.size w w'∧w'.cell? ⟨g,a+2,none⟩=some (.int .i64 x.a)∧w'.cell? ⟨g,a+3,none⟩=some (.int .i64 x.b)∧w'.cell? ⟨g,a+4,none⟩=some (.int .i64 x.c))
  (first | assumption | with_reducible exact HS.out _ (Below.refl _ _).drew | with_reducible exact HS.out _ (by assumption) | with_reducible exact HS.out _ (Below.alloc (And.left (by assumption)) (Below.size (And.left (by assumption))) _) | with_reducible exact HS.out _ (Below.drew (Below.alloc (Below.refl _ _) (Nat.le_refl _) _)))
  (fail)
 have HX:Hid (Bx w #[.int .i64 x.a,.int .i64 x.b,.int .i64 x.c] 184 (w.alloc (Obj.cells #[.int .i64 x.a,.int .i64 x.b,.int .i64 x.c] 184)).drew):=Lib.hid ((Bx.new w _ _).below (Below.refl _ _).drew);generalize (w.alloc (Obj.cells #[.int .i64 x.a,.int .i64 x.b,.int .i64 x.c] 184)).drew=W at HX ⊢;have HW:=Lib.hid (HXC.out.below hgw HX.out.bel);have HKW:=Lib.hid (HK.out.bx HX.out);have d0:=HW.out.c0;have d1:=HW.out.c1;clear HS c0;go_wp2_with fail;refine (partsOfC x.op W).mono ?_;rintro e w' ⟨rfl,rfl⟩;have hp3:=partsOf_le x.op;go_wp2_with fail
 go_loop [6] (fun iv=>∃k:Nat,iv= .int .i64 k∧partsOf x.op≤k∧k≤3∧Hid (∀j q,partsOf x.op≤j→j < k→ (abcL x)[j]? =some q→q= -1)) (fun iv=>3 - (intOf iv).toNat)
 case atStart=>exact ⟨partsOf x.op,rfl,Nat.le_refl _,hp3,Lib.hid fun j q h1 h2=>by omega⟩
 case round=>
  obtain ⟨k,rfl,hk1,hk2,HJ⟩:=hrel;have hk0: (0:Int)≤k:=by omega
  by_cases hlt:k < 3
  · have hlti: (k:Int) < 3:=by omega
    obtain ⟨q,hq1,hq2⟩:=abc_at HX.out hlt;have HQ:=Lib.hid hq2;clear hq2;by_cases hqe:q= -1
    · have hqb: (q != -1)=false:=by simp [hqe]
      have HQE:=Lib.hid hqe;clear hqe;go_wp2_with fail;go_round;case rel=>exact ⟨k+1,by go_num,by omega,by omega,Lib.hid fun j u h1 h2 h3=>by
       by_cases e:j=k
       · subst e;rw [HQ.out] at h3;injection h3 with h3
         rw [←h3,HQE.out]
       · exact HJ.out j u h1 (by omega) h3⟩
      case measure=>simp [intOf];omega
    · have HF:=Lib.hid (rest_bad hk1 HQ.out hqe);have hqb: (q != -1)=true:=by simp [hqe]
      clear hqe;exact absurd (HF.out.symm.trans HR.out) (by decide)
  · have hlti:¬ (k:Int) < 3:=by omega
    have HOK:=Lib.hid (rest_ok fun j q h1 h2 h3=>HJ.out j q h1 (by omega) h3);clear hk0 hk1 hk2 HJ hp3;have v0:=HW.out.v0;have v1:=HW.out.v1;have v2:=HW.out.v2;have v3:=HW.out.v3;have v4:=HW.out.v4;go_wp2_with fail;refine (variableC x.v o1 p1 W HKW.out (HD.out.1.mono fun _ _ _ hg=>dimAt.below (HX.out.bel.mono (by have:=HK.out.le;have:=HK.out.lt;omega)) hg)).mono ?_;rintro e w' ⟨rfl,hb⟩;have HB:=Lib.hid (HX.out.bel.trans (hb.mono HX.out.bel.size));clear hb;go_wp2_with fail;go_ret;exact ⟨retB HV.out.symm,HB.out⟩
set_option maxHeartbeats 1000000 in
set_option maxRecDepth 100000 in
theorem expr_else {B p g a:Nat} {h:MH} {m:ModelD} {x:ExprD} (w:World) (hk:Ck B w p h m) (hx:exprAt B w g a x) (hg:g < B) (hok:1≤x.op∧x.op≤39) (hrest:restB x=true) (hop:¬x.op=1∧¬x.op=2∧¬x.op=30∧¬x.op=38∧¬x.op=39):
 Calls Tryz.prog 93 #[.pointer (some ⟨p,0,none⟩),.pointer (some ⟨g,a,none⟩)] w fun e w'=>e= .returned (.bool (kindB m x))∧Below w.heap.size w w':=by
 have HK:=Lib.hid hk;obtain ⟨o1,p1,o2,p2,o3,p3,hxc,hd1,hd2,hd3⟩:=hx.xc;have HXC:=Lib.hid hxc;have HD:=Lib.hid (And.intro hd1 (And.intro hd2 hd3));have hgw:g < w.heap.size:=by have:=hk.le;have:=hk.lt;omega
 have HR:=Lib.hid hrest;have HV:Hid (kindB m x=true):=Lib.hid (by unfold kindB;rw [if_neg hop.1,if_neg hop.2.1,if_neg hop.2.2.1,if_neg hop.2.2.2.1,if_neg hop.2.2.2.2]);have b1: (x.op == 1)=false:=by simp [hop]
 have b2: (x.op == 2)=false:=by simp [hop]
 have b3: (x.op == 30)=false:=by simp [hop]
 have b4: (x.op == 38)=false:=by simp [hop]
 have b5: (x.op == 39)=false:=by simp [hop]
 clear hop;obtain ⟨k1,k2⟩:=hok;have c0:=hxc.c0;have HS:Hid (∀w',Below w.heap.size w w'→ (Below w.heap.size w w'∧w'.cell? ⟨g,a+2,none⟩=some (.int .i64 x.a)∧w'.cell? ⟨g,a+3,none⟩=some (.int .i64 x.b)∧w'.cell? ⟨g,a+4,none⟩=some (.int .i64 x.c))):=Lib.hid fun w' hb=>
  have h:=HXC.out.below hgw hb
  ⟨hb,h.c2,h.c3,h.c4⟩
 clear hxc hd1 hd2 hd3 hx hk hrest;go_enter Tryz.func93,Tryz.ntmps93;go_wp2_with fail
 go_region_held3 (fun w'=>Below w.heap.size w w'∧w'.cell? ⟨g,a+2,none⟩=some (.int .i64 x.a)∧w'.cell? ⟨g,a+3,none⟩=some (.int .i64 x.b)∧w'.cell? ⟨g,a+4,none⟩=some (.int .i64 x.c))
  (first | assumption | with_reducible exact HS.out _ (Below.refl _ _).drew | with_reducible exact HS.out _ (by assumption) | with_reducible exact HS.out _ (Below.alloc (And.left (by assumption)) (Below.size (And.left (by assumption))) _) | with_reducible exact HS.out _ (Below.drew (Below.alloc (Below.refl _ _) (Nat.le_refl _) _)))
  (fail)
 have HX:Hid (Bx w #[.int .i64 x.a,.int .i64 x.b,.int .i64 x.c] 184 (w.alloc (Obj.cells #[.int .i64 x.a,.int .i64 x.b,.int .i64 x.c] 184)).drew):=Lib.hid ((Bx.new w _ _).below (Below.refl _ _).drew);generalize (w.alloc (Obj.cells #[.int .i64 x.a,.int .i64 x.b,.int .i64 x.c] 184)).drew=W at HX ⊢;have HW:=Lib.hid (HXC.out.below hgw HX.out.bel);have HKW:=Lib.hid (HK.out.bx HX.out);have d0:=HW.out.c0;have d1:=HW.out.c1;clear HS c0;go_wp2_with fail;refine (partsOfC x.op W).mono ?_;rintro e w' ⟨rfl,rfl⟩;have hp3:=partsOf_le x.op;go_wp2_with fail
 go_loop [6] (fun iv=>∃k:Nat,iv= .int .i64 k∧partsOf x.op≤k∧k≤3∧Hid (∀j q,partsOf x.op≤j→j < k→ (abcL x)[j]? =some q→q= -1)) (fun iv=>3 - (intOf iv).toNat)
 case atStart=>exact ⟨partsOf x.op,rfl,Nat.le_refl _,hp3,Lib.hid fun j q h1 h2=>by omega⟩
 case round=>
  obtain ⟨k,rfl,hk1,hk2,HJ⟩:=hrel;have hk0: (0:Int)≤k:=by omega
  by_cases hlt:k < 3
  · have hlti: (k:Int) < 3:=by omega
    obtain ⟨q,hq1,hq2⟩:=abc_at HX.out hlt;have HQ:=Lib.hid hq2;clear hq2;by_cases hqe:q= -1
    · have hqb: (q != -1)=false:=by simp [hqe]
      have HQE:=Lib.hid hqe;clear hqe;go_wp2_with fail;go_round;case rel=>exact ⟨k+1,by go_num,by omega,by omega,Lib.hid fun j u h1 h2 h3=>by
       by_cases e:j=k
       · subst e;rw [HQ.out] at h3;injection h3 with h3
         rw [←h3,HQE.out]
       · exact HJ.out j u h1 (by omega) h3⟩
      case measure=>simp [intOf];omega
    · have HF:=Lib.hid (rest_bad hk1 HQ.out hqe);have hqb: (q != -1)=true:=by simp [hqe]
      clear hqe;exact absurd (HF.out.symm.trans HR.out) (by decide)
  · have hlti:¬ (k:Int) < 3:=by omega
    have HOK:=Lib.hid (rest_ok fun j q h1 h2 h3=>HJ.out j q h1 (by omega) h3);clear hk0 hk1 hk2 HJ hp3;go_wp2_with fail;go_ret;exact ⟨retB HV.out.symm,HX.out.bel⟩
end Go.Proofs.YtnoibjahliafpaaGreatDoor
