/- Which states may be, as the document has it. -/
import Derived.Test.YthfldokfnjpkmaaGreatDoorM34
import Derived.Test.YthfldokfnjpkmaaGreatDoorM41
import Derived.Test.YthfldokfnjpkmaaGreatDoorM13
import Derived.Test.YthfldokfnjpkmaaGreatDoorM38
import Derived.Test.YthfldokfnjpkmaaGreatDoorM01
set_option linter.unusedVariables false
set_option linter.unusedSimpArgs false
namespace Go.Proofs.YthfldokfnjpkmaaGreatDoor
open Go.ChangeShapes Go.WideShapes Go.ChangeAt Go.RowKit
structure Ys (w:World) (CS SS:Array Value) (h:MH) (m:ModelD) (hs:SH) (s:StateD) (W:World):Prop where
 mx:Mx w w.heap.size CS h m W
 es:SS=sCells hs s
 sx:Bq w (w.heap.size+1) SS 33 W
 sd:SD w.heap.size W hs s
section
variable {w W W':World} {CS SS:Array Value} {h:MH} {m:ModelD} {hs:SH} {s:StateD}
theorem Ys.below (k:Ys w CS SS h m hs s W) (hb:Below W.heap.size W W'):Ys w CS SS h m hs s W':=⟨k.mx.below hb,k.es,k.sx.below hb,k.sd.below (hb.mono k.sx.bel.size)⟩
theorem Ys.drewN (k:Ys w CS SS h m hs s W) (n:Nat):Ys w CS SS h m hs s (W.drewN n):=k.below (bdrew (Below.refl _ _) n)
theorem Ys.new (hd:MD w.heap.size w h m) (hC:CS=mCells h m) (hsd:SD w.heap.size w hs s) (hS:SS=sCells hs s):Ys w CS SS h m hs s ((w.alloc (.cells CS 29)).alloc (.cells SS 33)):=by
 have hb:Below w.heap.size w ((w.alloc (.cells CS 29)).alloc (.cells SS 33)):=(Mx.new hd hC).bx.bel.alloc (by simp) _;exact ⟨(Mx.new hd hC).below (ball _),hS,⟨new_at (by simp),hb⟩,hsd.below hb⟩
theorem Ys.s0 (k:Ys w CS SS h m hs s W):W.cell? ⟨w.heap.size+1,0,none⟩=some (.slice hs.go s.globals.length hs.gc):=k.sx.cell (by rw [k.es];rfl)
theorem Ys.s1 (k:Ys w CS SS h m hs s W):W.cell? ⟨w.heap.size+1,1,none⟩=some (.slice hs.co s.chans.length hs.cc):=k.sx.cell (by rw [k.es];rfl)
theorem Ys.s2 (k:Ys w CS SS h m hs s W):W.cell? ⟨w.heap.size+1,2,none⟩=some (.slice hs.po s.procs.length hs.pc):=k.sx.cell (by rw [k.es];rfl)
theorem Ys.s3 (k:Ys w CS SS h m hs s W):W.cell? ⟨w.heap.size+1,3,none⟩=some (.int .i64 s.last):=k.sx.cell (by rw [k.es];rfl)
theorem Ys.s4 (k:Ys w CS SS h m hs s W):W.cell? ⟨w.heap.size+1,4,none⟩=some (.int .i64 s.alone):=k.sx.cell (by rw [k.es];rfl)
theorem Ys.s5 (k:Ys w CS SS h m hs s W):W.cell? ⟨w.heap.size+1,5,none⟩=some (.int .i64 s.claim):=k.sx.cell (by rw [k.es];rfl)
end
theorem box_below {W W':World} {T:Nat} {cs:Array Value} {t:TypeId} (h:W.heap[T]? =some (.cells cs t (0,0))) (hb:Below W.heap.size W W'):W'.heap[T]? =some (.cells cs t (0,0)):=(hb.block _ (lt_of_block h)).trans h
theorem box_cell {W:World} {T:Nat} {cs:Array Value} {t:TypeId} (h:W.heap[T]? =some (.cells cs t (0,0))) {i:Nat} {v:Value} (hv:cs[i]? =some v):W.cell? ⟨T,i,none⟩=some v:=(cell_of_row _ _ _ _ _ _ h).trans hv
def mayT1 (m:ModelD) (s:StateD):Bool:=decide (s.chans.length≤32∧s.procs.length≤16∧0≤s.last∧s.last≤15∧ -1≤s.alone∧s.alone < s.procs.length∧ (m.claim < 0→s.claim= -1))
def mayT2 (m:ModelD) (s:StateD):Bool:=decide (0≤m.claim→0≤s.claim∧s.claim < claimLocs m)
theorem may_is (m:ModelD) (s:StateD):mayB m s= (fitsL m.globals s.globals && mayT1 m s && mayT2 m s && s.chans.all (chanMayB m) && s.procs.all (procMayB m)):=by
 unfold mayB mayHeadB mayTailB mayT1 mayT2;generalize fitsL m.globals s.globals=a;generalize s.chans.all (chanMayB m)=b;generalize s.procs.all (procMayB m)=c;by_cases h:m.claim < 0
 · rw [if_pos h];grind
 · rw [if_neg h];grind
set_option maxRecDepth 100000 in
set_option maxHeartbeats 8000000 in
theorem may12H {h:MH} {m:ModelD} {hs:SH} {s:StateD} (hcl:m.claim < m.procs.length) (w:World) (hd:MD w.heap.size w h m) (hsd:SD w.heap.size w hs s):Calls Tryz.prog 19 #[mV h m,sV hs s] w fun e w'=>e= .returned (.bool (mayB m s))∧Below w.heap.size w w':=by
 obtain ⟨CS,hCS⟩:∃c,c=mCells h m:=⟨_,rfl⟩;obtain ⟨SS,hSS⟩:∃c,c=sCells hs s:=⟨_,rfl⟩;have l0:=hd.globals.1;have l2:=hd.shapes.1;have l4:=hd.procs.1;have k0:=hsd.globals.1;have k1:=hsd.chans.1;have k2:=hsd.procs.1;have HX:=Lib.hid (Ys.new hd hCS hsd hSS);have HCL:=Lib.hid hcl;have HV:Hid (mayB m s= (fitsL m.globals s.globals && mayT1 m s && mayT2 m s && s.chans.all (chanMayB m) && s.procs.all (procMayB m))):=Lib.hid (may_is m s);unfold mV sV;rw [←hCS,←hSS];clear hd hsd hCS hSS hcl;go_enter Tryz.func19,Tryz.ntmps19;go_upto_region 1 with fail
 generalize (w.alloc (.cells CS 29)).alloc (.cells SS 33)=W1 at HX ⊢;have c0:=HX.out.mx.c0;have s0:=HX.out.s0;go_wp2_with fail;refine (typed12H (B:=w.heap.size) m.globals s.globals h.go hs.go h.gc hs.gc W1 HX.out.sx.bel.size HX.out.mx.md.globals HX.out.sd.globals).mono ?_;rintro e W2 ⟨rfl,hb2⟩;have HX2:=Lib.hid (HX.out.below hb2);clear hb2 HX c0 s0;obtain ⟨u,hu⟩:∃u,fitsL m.globals s.globals=u:=⟨_,rfl⟩;rw [hu] at HV;rw [hu];clear hu;have s1:=HX2.out.s1;have s2:=HX2.out.s2;have s3:=HX2.out.s3;have s4:=HX2.out.s4;have s5:=HX2.out.s5;have c5:=HX2.out.mx.c5;go_upto_region 2 with fail
 go_cut [63] from 17 to 63 (fun v wx=>v= .bool (!(u && mayT1 m s))∧W2=wx)
 case first=>
  cases u
  · go_wp2_with fail;go_meet;case rel=>exact ⟨rfl,rfl⟩
  have HN:Hid (∀b:Bool,((32 < s.chans.length∨16 < s.procs.length∨s.last < 0∨15 < s.last∨s.alone < -1∨ (s.procs.length:Int)≤s.alone∨ (m.claim < 0∧s.claim≠ -1))↔b=true)→Value.bool b= .bool (!(true && mayT1 m s))):=Lib.hid (by
   intro b hb;congr 1;unfold mayT1;rw [Bool.true_and,Bool.eq_iff_iff,←hb,Bool.not_eq_true',decide_eq_false_iff_not];omega)
  by_cases z1:32 < s.chans.length
  · go_wp2_with fail;go_meet;case rel=>exact ⟨HN.out _ ⟨fun _=>rfl,fun _=> .inl z1⟩,rfl⟩
  by_cases z2:16 < s.procs.length
  · go_wp2_with fail;go_meet;case rel=>exact ⟨HN.out _ ⟨fun _=>rfl,fun _=> .inr (.inl z2)⟩,rfl⟩
  by_cases z3:s.last < 0
  · go_wp2_with fail;go_meet;case rel=>exact ⟨HN.out _ ⟨fun _=>rfl,fun _=> .inr (.inr (.inl z3))⟩,rfl⟩
  by_cases z4:15 < s.last
  · go_wp2_with fail;go_meet;case rel=>exact ⟨HN.out _ ⟨fun _=>rfl,fun _=> .inr (.inr (.inr (.inl z4)))⟩,rfl⟩
  by_cases z5:s.alone < -1
  · go_wp2_with fail;go_meet;case rel=>exact ⟨HN.out _ ⟨fun _=>rfl,fun _=> .inr (.inr (.inr (.inr (.inl z5))))⟩,rfl⟩
  by_cases z6: (s.procs.length:Int)≤s.alone
  · go_wp2_with fail;go_meet;case rel=>exact ⟨HN.out _ ⟨fun _=>rfl,fun _=> .inr (.inr (.inr (.inr (.inr (.inl z6)))))⟩,rfl⟩
  obtain ⟨qc,hqc⟩:∃q,(s.claim != -1)=q:=⟨_,rfl⟩;have HQC:Hid (s.claim≠ -1↔qc=true):=Lib.hid (by rw [←hqc,bne_iff_ne]);have e1:¬ (32:Int) < s.chans.length:=by omega
  have e2:¬ (16:Int) < s.procs.length:=by omega
  by_cases z7:m.claim < 0
  · go_wp2_with fail;go_meet;case rel=>
     refine ⟨HN.out _ ⟨fun h0=> ?_,fun h0=> .inr (.inr (.inr (.inr (.inr (.inr ⟨z7,HQC.out.2 h0⟩)))))⟩,rfl⟩;rcases h0 with h0 | h0 | h0 | h0 | h0 | h0 | ⟨-,h0⟩
     · exfalso;omega
     · exfalso;omega
     · exfalso;omega
     · exfalso;omega
     · exfalso;omega
     · exfalso;omega
     · exact HQC.out.1 h0
  · go_wp2_with fail;go_meet;case rel=>exact ⟨HN.out _ ⟨fun h0=>by exfalso;omega,fun h0=>by cases h0⟩,rfl⟩
 case rest=>
 obtain ⟨rfl,hwx⟩:=hcut;subst hwx;clear s1 s2 s3 s4;cases hut: (u && mayT1 m s)
 · have HZ:Hid (mayB m s=false):=Lib.hid (by rw [HV.out,hut];rfl);go_wp2_with fail;go_ret;exact ⟨retB HZ.out.symm,HX2.out.sx.bel⟩
 have HV2:Hid (mayB m s= (mayT2 m s && s.chans.all (chanMayB m) && s.procs.all (procMayB m))):=Lib.hid (by rw [HV.out,hut];rfl);clear hut HV
 try simp only [Bool.not_true]
 go_upto_region 4 with fail
 go_cut [84] from 64 to 84 (fun v wx=>v= .bool (!(mayT2 m s))∧Hid (Ys w CS SS h m hs s wx))
 case first=>
  by_cases z1:0≤m.claim
  · have d0:decide (0≤m.claim)=true:=decide_eq_true z1;obtain ⟨q,hq⟩:∃q:Nat,m.claim=q:=⟨m.claim.toNat,by omega⟩;have hql:q < m.procs.length:=by have:=HCL.out;omega
    have hqli: (q:Int) < m.procs.length:=by omega
    have hq0: (0:Int)≤q:=by omega
    obtain ⟨gp,offp,hpo,hgp,hpr⟩:=HX2.out.mx.md.procs.cell hql;obtain ⟨lo,lc,e4,hrl⟩:=hpr.locs;have ll:=hrl.1;have c4:=HX2.out.mx.c4;rw [hpo] at c4;rw [hq] at c5 d0;have HT2:Hid (mayT2 m s=decide (0≤s.claim∧s.claim < m.procs[q].locs.length)):=Lib.hid (by
     unfold mayT2 claimLocs;rw [hq];simp [hql])
    obtain ⟨LN,hLN⟩:∃n,m.procs[q].locs.length=n:=⟨_,rfl⟩;rw [hLN] at e4 HT2 ll;clear z1 hq hpo hgp hpr hrl hLN;by_cases z2:s.claim < 0
    · have d1:decide (s.claim < 0)=true:=decide_eq_true z2;have HZ:Hid (mayT2 m s=false):=Lib.hid (by rw [HT2.out];exact decide_eq_false (by omega));clear z2;go_wp2_with fail;go_quiet (fail);go_wp2_with fail;go_meet;case rel=>exact ⟨by rw [HZ.out];rfl,Lib.hid (HX2.out.drewN _)⟩
    have d1:decide (s.claim < 0)=false:=decide_eq_false z2;by_cases z3: (LN:Int)≤s.claim
    · have d2:decide ((LN:Int)≤s.claim)=true:=decide_eq_true z3;have HZ:Hid (mayT2 m s=false):=Lib.hid (by rw [HT2.out];exact decide_eq_false (by omega));clear z2 z3;go_wp2_with fail;go_quiet (fail);go_wp2_with fail;go_meet;case rel=>exact ⟨by rw [HZ.out];rfl,Lib.hid (HX2.out.drewN _)⟩
    · have d2:decide ((LN:Int)≤s.claim)=false:=decide_eq_false z3;have HZ:Hid (mayT2 m s=true):=Lib.hid (by rw [HT2.out];exact decide_eq_true (by omega));clear z2 z3;go_wp2_with fail;go_quiet (fail);go_wp2_with fail;go_meet;case rel=>exact ⟨by rw [HZ.out];rfl,Lib.hid (HX2.out.drewN _)⟩
  · have d0:decide (0≤m.claim)=false:=decide_eq_false z1;have HZ:Hid (mayT2 m s=true):=Lib.hid (by unfold mayT2;exact decide_eq_true fun h=>absurd h z1);clear z1;go_wp2_with fail;go_quiet (fail);go_wp2_with fail;go_meet;case rel=>exact ⟨by rw [HZ.out];rfl,Lib.hid (HX2.out.drewN _)⟩
 case rest=>
 obtain ⟨rfl,HX3⟩:=hcut;clear s5 c5;cases ht2:mayT2 m s
 · have HZ:Hid (mayB m s=false):=Lib.hid (by rw [HV2.out,ht2];rfl);go_wp2_with fail;go_ret;exact ⟨retB HZ.out.symm,HX3.out.sx.bel⟩
 have HV3:Hid (mayB m s= (s.chans.all (chanMayB m) && s.procs.all (procMayB m))):=Lib.hid (by rw [HV2.out,ht2];rfl);clear ht2 HV2 HX2
 try simp only [Bool.not_true]
 go_wp2_with fail
 go_loopw [6] (fun iv wr=>∃k:Nat,iv= .int .i64 k∧k≤s.chans.length∧Hid (∀j (hj:j < s.chans.length),j < k→chanMayB m s.chans[j]=true)∧Hid (Ys w CS SS h m hs s wr)) (fun iv _=>s.chans.length - (intOf iv).toNat)
 case atStart=>exact ⟨0,rfl,by omega,Lib.hid fun j _ h=>by omega,HX3⟩
 case round=>
  clear HX3;obtain ⟨k,rfl,hk,HJ,HX⟩:=hrel;have hk0: (0:Int)≤k:=by omega
  have s1:=HX.out.s1;by_cases hlt:k < s.chans.length
  · have hlti: (k:Int) < s.chans.length:=by omega
    obtain ⟨gc,offc,hco,hgc,hch⟩:=HX.out.sd.chans.cell hlt;obtain ⟨c,hc⟩:∃c,s.chans[k]=c:=⟨_,rfl⟩;rw [hc] at hch;obtain ⟨qo,qc,x1,hrq⟩:=hch.queue;have x0:=hch.c0;have lq:=hrq.1;have HBAD:Hid (chanMayB m c=false→mayB m s=false):=Lib.hid fun h=>by rw [HV3.out,all_bad hlt (by rw [hc];exact h)];rfl
    have HGO:Hid (chanMayB m c=true→∀j (hj:j < s.chans.length),j < k+1→chanMayB m s.chans[j]=true):=Lib.hid fun h j hj hjk=>by
     by_cases e:j=k
     · subst e;rw [hc];exact h
     · exact HJ.out j hj (by omega)
    have HX4:=Lib.hid (HX.out.below (ball (.cells #[.int .i64 c.shape,.slice qo c.queue.length qc] 81)));have HC4:Hid (Bq wr wr.heap.size #[.int .i64 c.shape,.slice qo c.queue.length qc] 81 (wr.alloc (.cells #[.int .i64 c.shape,.slice qo c.queue.length qc] 81))):=Lib.hid (Bq.new (Below.refl _ _) _ _);have HRQ:Hid (Row w.heap.size qo 1 (msgAt w.heap.size (wr.alloc (.cells #[.int .i64 c.shape,.slice qo c.queue.length qc] 81))) c.queue):=Lib.hid (hrq.mono fun _ _ _ hg=>msgAt.below ((ball _).mono HX.out.sx.bel.size) hg);rw [hco] at s1;clear hc hch hrq hco hgc HJ;go_upto_region 10 with fail
    generalize wr.alloc (.cells #[.int .i64 c.shape,.slice qo c.queue.length qc] 81)=W4 at HX4 HC4 HRQ ⊢;clear x0 x1 s1 HX;have y0:W4.cell? ⟨wr.heap.size,0,none⟩=some (.int .i64 c.shape):=HC4.out.cell rfl;have y1:W4.cell? ⟨wr.heap.size,1,none⟩=some (.slice qo c.queue.length qc):=HC4.out.cell rfl;have c2:=HX4.out.mx.c2;by_cases z1:c.shape < 0
    · have d1:decide (c.shape < 0)=true:=decide_eq_true z1;have HZ:=Lib.hid (HBAD.out (by unfold chanMayB chanHeadB;rw [decide_eq_false (by omega)];rfl));clear z1;go_wp2_with fail;go_quiet (fail);go_wp2_with fail;go_ret;exact ⟨retB HZ.out.symm,(HX4.out.drewN _).sx.bel⟩
    have d1:decide (c.shape < 0)=false:=decide_eq_false z1;by_cases z2: (m.shapes.length:Int)≤c.shape
    · have d2:decide ((m.shapes.length:Int)≤c.shape)=true:=decide_eq_true z2;have HZ:=Lib.hid (HBAD.out (by unfold chanMayB chanHeadB;rw [decide_eq_false (by omega)];rfl));clear z1 z2;go_wp2_with fail;go_quiet (fail);go_wp2_with fail;go_ret;exact ⟨retB HZ.out.symm,(HX4.out.drewN _).sx.bel⟩
    have d2:decide ((m.shapes.length:Int)≤c.shape)=false:=decide_eq_false z2;obtain ⟨q,hq⟩:∃q:Nat,c.shape=q:=⟨c.shape.toNat,by omega⟩;have hql:q < m.shapes.length:=by omega
    have hqli: (q:Int) < m.shapes.length:=by omega
    have hq0: (0:Int)≤q:=by omega
    obtain ⟨gs,offs,hso,hgs,hsh⟩:=HX4.out.mx.md.shapes.cell hql;obtain ⟨fo,fc,e1,hrf⟩:=hsh.fields;have e0:=hsh.c0;have lf:=hrf.1;obtain ⟨sp,hsp⟩:∃sp,m.shapes[q]=sp:=⟨_,rfl⟩;rw [hsp] at e0 e1 hrf lf;have HCF:Hid (chanMayB m c= (decide ((c.queue.length:Int)≤sp.room) && c.queue.all (fitsL sp.fields))):=Lib.hid (by
     unfold chanMayB chanHeadB chanFB;rw [decide_eq_true (by omega),hq];simp [hql,hsp])
    rw [hso] at c2;rw [hq] at y0 d1 d2;have d4:decide (m.shapes.length≤q)=false:=decide_eq_false (by omega);have HBX:=Lib.hid HC4.out.box;rw [hq] at HBX;obtain ⟨T,hT⟩:∃T,wr.heap.size=T:=⟨_,rfl⟩;rw [hT] at HBX y0 y1 ⊢;clear HC4 hT z1 z2 hso hgs hsh hrf hq;by_cases z3:sp.room < c.queue.length
    · have d3:decide (sp.room < (c.queue.length:Int))=true:=decide_eq_true z3;have HZ:=Lib.hid (HBAD.out (by rw [HCF.out,decide_eq_false (by omega)];rfl));clear z3;go_wp2_with fail;go_quiet (fail);go_wp2_with fail;go_ret;exact ⟨retB HZ.out.symm,(HX4.out.drewN _).sx.bel⟩
    have d3:decide (sp.room < (c.queue.length:Int))=false:=decide_eq_false z3;have HCF2:Hid (chanMayB m c=c.queue.all (fitsL sp.fields)):=Lib.hid (by rw [HCF.out,decide_eq_true (by omega)];rfl);have HXD:Hid (∀n,Ys w CS SS h m hs s (W4.drewN n)):=Lib.hid fun n=>HX4.out.drewN n
    have HBD:Hid (∀n,(W4.drewN n).heap[T]? =some (.cells #[.int .i64 q,.slice qo c.queue.length qc] 81 (0,0))):=Lib.hid fun n=>box_below HBX.out (bdrew (Below.refl _ _) n)
    have HRD:Hid (∀n,Row w.heap.size qo 1 (msgAt w.heap.size (W4.drewN n)) c.queue):=Lib.hid fun n=>HRQ.out.mono fun _ _ _ hg=>msgAt.below ((bdrew (Below.refl _ _) n).mono HX4.out.sx.bel.size) hg
    have HSP:=Lib.hid hsp;clear z3 HCF HX4 HBX HRQ hsp;go_wp2_with fail;go_quiet (fail);go_wp2_with fail;clear y0 y1 c2 e0 e1 d1 d2 d3 d4
    go_loopw [8] (fun jv wr=>∃j:Nat,jv= .int .i64 j∧j≤c.queue.length∧Hid (∀i (hi:i < c.queue.length),i < j→fitsL sp.fields c.queue[i]=true)∧Hid (Ys w CS SS h m hs s wr)∧Hid (wr.heap[T]? =some (.cells #[.int .i64 q,.slice qo c.queue.length qc] 81 (0,0)))∧Hid (Row w.heap.size qo 1 (msgAt w.heap.size wr) c.queue)) (fun jv _=>c.queue.length - (intOf jv).toNat)
    case atStart=>exact ⟨0,rfl,by omega,Lib.hid fun j _ h=>by omega,Lib.hid (HXD.out _),Lib.hid (HBD.out _),Lib.hid (HRD.out _)⟩
    case round=>
     clear HXD HBD HRD;obtain ⟨j,rfl,hj,HJ2,HX,HB,HR⟩:=hrel;have hj0: (0:Int)≤j:=by omega
     have y1:wr.cell? ⟨T,1,none⟩=some (.slice qo c.queue.length qc):=box_cell HB.out rfl;by_cases hjl:j < c.queue.length
     · have hjli: (j:Int) < c.queue.length:=by omega
       have y0:wr.cell? ⟨T,0,none⟩=some (.int .i64 q):=box_cell HB.out rfl;have c2:=HX.out.mx.c2;obtain ⟨gs,offs,hso,hgs,hsh⟩:=HX.out.mx.md.shapes.cell hql;obtain ⟨fo,fc,e1,hrf⟩:=hsh.fields;rw [hso] at c2;rw [HSP.out] at e1 hrf;obtain ⟨gm,offm,hqo,hgm,hms⟩:=HR.out.cell hjl;obtain ⟨x,hx⟩:∃x,c.queue[j]=x:=⟨_,rfl⟩;rw [hx] at hms;obtain ⟨mo,mc,e3,hrm⟩:=hms;rw [Nat.mul_one] at e3;rw [hqo] at y1;have HBAD2:Hid (fitsL sp.fields x=false→mayB m s=false):=Lib.hid fun h=>HBAD.out (by rw [HCF2.out];exact all_bad hjl (by rw [hx];exact h))
       have HGO2:Hid (fitsL sp.fields x=true→∀i (hi:i < c.queue.length),i < j+1→fitsL sp.fields c.queue[i]=true):=Lib.hid fun h i hi hij=>by
        by_cases e:i=j
        · subst e;rw [hx];exact h
        · exact HJ2.out i hi (by omega)
       have lx:=hrm.1;have lf:=hrf.1;have HX5:Hid (Ys w CS SS h m hs s wr.drew):=Lib.hid (HX.out.below (Below.refl _ _).drew);have HB5:=Lib.hid (box_below HB.out (Below.refl wr.heap.size wr).drew);have HR5:Hid (Row w.heap.size qo 1 (msgAt w.heap.size wr.drew) c.queue):=Lib.hid (HR.out.mono fun _ _ _ hg=>msgAt.below ((Below.refl _ _).drew) hg);have HF5:Hid (Row w.heap.size fo 2 (tyAt wr.drew) sp.fields):=Lib.hid (hrf.mono fun _ _ _ hg=>tyAt.below ((Below.refl _ _).drew) hg);have HM5:Hid (Row w.heap.size mo 1 (intAt wr.drew) x):=Lib.hid (hrm.mono fun _ _ _ hg=>intAt.below ((Below.refl _ _).drew) hg);clear hx hqo hso hgs hsh hgm hrf hrm HJ2 HX HB HR;go_wp2_with fail;go_still_tail 12,(by kernel_rfl);change wpList _ _ _ _ _ wr.drew;generalize wr.drew=W5 at HX5 HB5 HR5 HF5 HM5 ⊢;clear y0 y1 c2 e1 e3;go_wp2_with fail;refine (typed12H (B:=w.heap.size) sp.fields x fo mo fc mc W5 HX5.out.sx.bel.size HF5.out HM5.out).mono ?_;rintro e W6 ⟨rfl,hb6⟩;have HX6:=Lib.hid (HX5.out.below hb6);have HB6:=Lib.hid (box_below HB5.out hb6);have HR6:Hid (Row w.heap.size qo 1 (msgAt w.heap.size W6) c.queue):=Lib.hid (HR5.out.mono fun _ _ _ hg=>msgAt.below (hb6.mono HX5.out.sx.bel.size) hg);clear hb6 HX5 HB5 HR5 HF5 HM5;obtain ⟨u2,hu2⟩:∃u,fitsL sp.fields x=u:=⟨_,rfl⟩;rw [hu2];have HU:=Lib.hid hu2;clear hu2;cases u2
       · have HZ:=Lib.hid (HBAD2.out HU.out);go_wp2_with fail;go_ret;exact ⟨retB HZ.out.symm,HX6.out.sx.bel⟩
       · have HZ:=Lib.hid (HGO2.out HU.out);go_wp2_with fail;go_roundw;case rel=>exact ⟨j+1,by go_num,by omega,HZ,HX6,HB6,HR6⟩
         case measure=>simp [intOf];omega
     · have hjli:¬ (j:Int) < c.queue.length:=by omega
       have HZ:=Lib.hid (HGO.out (by rw [HCF2.out];exact all_of fun i hi=>HJ2.out i hi (by omega)));clear HJ2 HBAD HGO HCF2;go_wp2_with fail;go_roundw;case rel=>exact ⟨k+1,by go_num,by omega,HZ,HX⟩
       case measure=>simp [intOf];omega
  · have hlti:¬ (k:Int) < s.chans.length:=by omega
    have HV4:Hid (mayB m s=s.procs.all (procMayB m)):=Lib.hid (by rw [HV3.out,all_of fun j hj=>HJ.out j hj (by omega)];rfl);clear HJ HV3;go_wp2_with fail
    go_loopw [9] (fun iv wr=>∃k:Nat,iv= .int .i64 k∧k≤s.procs.length∧Hid (∀j (hj:j < s.procs.length),j < k→procMayB m s.procs[j]=true)∧Hid (Ys w CS SS h m hs s wr)) (fun iv _=>s.procs.length - (intOf iv).toNat)
    case atStart=>exact ⟨0,rfl,by omega,Lib.hid fun j _ h=>by omega,HX⟩
    case round=>
     clear HX s1;obtain ⟨k2,rfl,hk2,HJ,HX⟩:=hrel;have hk20: (0:Int)≤k2:=by omega
     have s2:=HX.out.s2;by_cases hlt2:k2 < s.procs.length
     · have hlti2: (k2:Int) < s.procs.length:=by omega
       obtain ⟨gc,offc,hco,hgc,hch⟩:=HX.out.sd.procs.cell hlt2;obtain ⟨p,hp⟩:∃p,s.procs[k2]=p:=⟨_,rfl⟩;rw [hp] at hch;obtain ⟨qo,qc,x3,hrq⟩:=hch.frame;have x0:=hch.c0;have x1:=hch.c1;have x2:=hch.c2;have lq:=hrq.1;have HBAD:Hid (procMayB m p=false→mayB m s=false):=Lib.hid fun h=>by rw [HV4.out,all_bad hlt2 (by rw [hp];exact h)]
       have HGO:Hid (procMayB m p=true→∀j (hj:j < s.procs.length),j < k2+1→procMayB m s.procs[j]=true):=Lib.hid fun h j hj hjk=>by
        by_cases e:j=k2
        · subst e;rw [hp];exact h
        · exact HJ.out j hj (by omega)
       have HX4:=Lib.hid (HX.out.below (ball (.cells #[.int .i64 p.type,.int .i64 p.loc,.int .i64 p.prio,.slice qo p.frame.length qc] 60)));have HC4:Hid (Bq wr wr.heap.size #[.int .i64 p.type,.int .i64 p.loc,.int .i64 p.prio,.slice qo p.frame.length qc] 60 (wr.alloc (.cells #[.int .i64 p.type,.int .i64 p.loc,.int .i64 p.prio,.slice qo p.frame.length qc] 60))):=Lib.hid (Bq.new (Below.refl _ _) _ _);have HRQ:Hid (Row w.heap.size qo 1 (intAt (wr.alloc (.cells #[.int .i64 p.type,.int .i64 p.loc,.int .i64 p.prio,.slice qo p.frame.length qc] 60))) p.frame):=Lib.hid (hrq.mono fun _ _ _ hg=>intAt.below ((ball _).mono HX.out.sx.bel.size) hg);rw [hco] at s2;clear hp hch hrq hco hgc HJ;go_upto_region 22 with fail
       generalize wr.alloc (.cells #[.int .i64 p.type,.int .i64 p.loc,.int .i64 p.prio,.slice qo p.frame.length qc] 60)=W4 at HX4 HC4 HRQ ⊢;clear x0 x1 x2 x3 s2 HX;have HBX:=Lib.hid HC4.out.box;obtain ⟨T,hT⟩:∃T,wr.heap.size=T:=⟨_,rfl⟩;rw [hT] at HBX ⊢;clear HC4 hT;have y0:W4.cell? ⟨T,0,none⟩=some (.int .i64 p.type):=box_cell HBX.out rfl;have c4:=HX4.out.mx.c4;have c5:=HX4.out.mx.c5;by_cases z1:p.type < 0
       · have HZ:=Lib.hid (HBAD.out (by unfold procMayB procHeadB;rw [decide_eq_false (by omega)];rfl));go_wp2_with fail;go_ret;exact ⟨retB HZ.out.symm,HX4.out.sx.bel⟩
       by_cases z2: (m.procs.length:Int)≤p.type
       · have HZ:=Lib.hid (HBAD.out (by unfold procMayB procHeadB;rw [decide_eq_false (by omega)];rfl));go_wp2_with fail;go_ret;exact ⟨retB HZ.out.symm,HX4.out.sx.bel⟩
       obtain ⟨mc,hmc⟩:∃n,m.claim=n:=⟨_,rfl⟩;obtain ⟨q,hq⟩:∃q:Nat,p.type=q:=⟨p.type.toNat,by omega⟩;have hql:q < m.procs.length:=by omega
       have hqli: (q:Int) < m.procs.length:=by omega
       have hq0: (0:Int)≤q:=by omega
       rw [hmc] at c5;rw [hq] at y0 HBX z1 z2;by_cases z3: (q:Int)=mc
       · have HZ:=Lib.hid (HBAD.out (by unfold procMayB procHeadB;rw [decide_eq_false (by omega)];rfl));have d3: ((q:Int) == mc)=true:=by rw [beq_iff_eq];exact z3
         clear hq hmc z3;go_wp2_with fail;go_ret;exact ⟨retB HZ.out.symm,HX4.out.sx.bel⟩
       have d3: ((q:Int) == mc)=false:=by rw [beq_eq_false_iff_ne];exact z3
       obtain ⟨gp,offp,hpo,hgp,hpr⟩:=HX4.out.mx.md.procs.cell hql;obtain ⟨t,ht⟩:∃t,m.procs[q]=t:=⟨_,rfl⟩;have HCF:Hid (procMayB m p= (decide (0≤p.loc∧p.loc < t.locs.length∧p.prio=t.prio) && fitsL t.frame p.frame)):=Lib.hid (by
        unfold procMayB procHeadB procFB;rw [decide_eq_true (by omega),hq];simp [hql,ht])
       rw [ht] at hpr;obtain ⟨fo,fc,e2,hrf⟩:=hpr.frame;obtain ⟨io,ic,e3,hri⟩:=hpr.init;obtain ⟨lo,lc,e4,hrl⟩:=hpr.locs;have e0:=hpr.c0;have e1:=hpr.c1;have e5:=hpr.c5;have e6:=hpr.c6;have e7:=hpr.c7;have e8:=hpr.c8;have e9:=hpr.c9;have lf:=hrf.1;have ll:=hrl.1;rw [hpo] at c4;have HX5:=Lib.hid (HX4.out.below (ball (.cells #[.string t.name,.int .i64 t.params,.slice fo t.frame.length fc,.slice io t.init.length ic,.slice lo t.locs.length lc,.int .i64 t.start,.int .i64 t.final,.int .i64 t.active,.int .i64 t.prio,.int .i64 t.provided] 73)));have HB5:=Lib.hid (box_below HBX.out (ball (w:=W4) (.cells #[.string t.name,.int .i64 t.params,.slice fo t.frame.length fc,.slice io t.init.length ic,.slice lo t.locs.length lc,.int .i64 t.start,.int .i64 t.final,.int .i64 t.active,.int .i64 t.prio,.int .i64 t.provided] 73)));have HP5:Hid ((W4.alloc (.cells #[.string t.name,.int .i64 t.params,.slice fo t.frame.length fc,.slice io t.init.length ic,.slice lo t.locs.length lc,.int .i64 t.start,.int .i64 t.final,.int .i64 t.active,.int .i64 t.prio,.int .i64 t.provided] 73)).heap[W4.heap.size]? =some (.cells #[.string t.name,.int .i64 t.params,.slice fo t.frame.length fc,.slice io t.init.length ic,.slice lo t.locs.length lc,.int .i64 t.start,.int .i64 t.final,.int .i64 t.active,.int .i64 t.prio,.int .i64 t.provided] 73 (0,0))):=Lib.hid (heap_alloc_new W4 _);have HR5:Hid (Row w.heap.size qo 1 (intAt (W4.alloc (.cells #[.string t.name,.int .i64 t.params,.slice fo t.frame.length fc,.slice io t.init.length ic,.slice lo t.locs.length lc,.int .i64 t.start,.int .i64 t.final,.int .i64 t.active,.int .i64 t.prio,.int .i64 t.provided] 73))) p.frame):=Lib.hid (HRQ.out.mono fun _ _ _ hg=>intAt.below ((ball _).mono HX4.out.sx.bel.size) hg);have HF5:Hid (Row w.heap.size fo 2 (tyAt (W4.alloc (.cells #[.string t.name,.int .i64 t.params,.slice fo t.frame.length fc,.slice io t.init.length ic,.slice lo t.locs.length lc,.int .i64 t.start,.int .i64 t.final,.int .i64 t.active,.int .i64 t.prio,.int .i64 t.provided] 73))) t.frame):=Lib.hid (hrf.mono fun _ _ _ hg=>tyAt.below ((ball _).mono HX4.out.sx.bel.size) hg);clear hq hmc z3 hpo hgp hpr hrf hri hrl ht HBX HRQ;go_upto_region 25 with fail
       generalize W4.alloc (.cells #[.string t.name,.int .i64 t.params,.slice fo t.frame.length fc,.slice io t.init.length ic,.slice lo t.locs.length lc,.int .i64 t.start,.int .i64 t.final,.int .i64 t.active,.int .i64 t.prio,.int .i64 t.provided] 73)=W5 at HX5 HB5 HP5 HR5 HF5 ⊢;clear HX4;obtain ⟨T2,hT2⟩:∃T,W4.heap.size=T:=⟨_,rfl⟩;rw [hT2] at HP5 ⊢;clear y0 c4 c5 e0 e1 e2 e3 e4 e5 e6 e7 e8 e9 d3 hT2 z1 z2;have f2:W5.cell? ⟨T2,2,none⟩=some (.slice fo t.frame.length fc):=box_cell HP5.out rfl;have y3:W5.cell? ⟨T,3,none⟩=some (.slice qo p.frame.length qc):=box_cell HB5.out rfl;go_wp2_with fail;refine (typed12H (B:=w.heap.size) t.frame p.frame fo qo fc qc W5 HX5.out.sx.bel.size HF5.out HR5.out).mono ?_;rintro e W6 ⟨rfl,hb6⟩;have HX6:=Lib.hid (HX5.out.below hb6);have HB6:=Lib.hid (box_below HB5.out hb6);have HP6:=Lib.hid (box_below HP5.out hb6);clear hb6 HX5 HB5 HP5 HR5 HF5 f2 y3;obtain ⟨u2,hu2⟩:∃u,fitsL t.frame p.frame=u:=⟨_,rfl⟩;rw [hu2] at HCF ⊢;clear hu2;have y1:W6.cell? ⟨T,1,none⟩=some (.int .i64 p.loc):=box_cell HB6.out rfl;have y2:W6.cell? ⟨T,2,none⟩=some (.int .i64 p.prio):=box_cell HB6.out rfl;have f4:W6.cell? ⟨T2,4,none⟩=some (.slice lo t.locs.length lc):=box_cell HP6.out rfl;have f8:W6.cell? ⟨T2,8,none⟩=some (.int .i64 t.prio):=box_cell HP6.out rfl;cases u2
       · have HZ:=Lib.hid (HBAD.out (by rw [HCF.out,Bool.and_false]));go_wp2_with fail;go_ret;exact ⟨retB HZ.out.symm,HX6.out.sx.bel⟩
       by_cases z1:p.loc < 0
       · have HZ:=Lib.hid (HBAD.out (by rw [HCF.out,decide_eq_false (by omega)];rfl));go_wp2_with fail;go_ret;exact ⟨retB HZ.out.symm,HX6.out.sx.bel⟩
       by_cases z2: (t.locs.length:Int)≤p.loc
       · have HZ:=Lib.hid (HBAD.out (by rw [HCF.out,decide_eq_false (by omega)];rfl));go_wp2_with fail;go_ret;exact ⟨retB HZ.out.symm,HX6.out.sx.bel⟩
       by_cases z3:p.prio=t.prio
       · have d3: (p.prio != t.prio)=false:=by rw [bne_eq_false_iff_eq];exact z3
         have HZ:=Lib.hid (HGO.out (by rw [HCF.out,decide_eq_true (by omega)];rfl));clear z3;go_wp2_with fail;go_roundw;case rel=>exact ⟨k2+1,by go_num,by omega,HZ,HX6⟩
         case measure=>simp [intOf];omega
       · have d3: (p.prio != t.prio)=true:=by rw [bne_iff_ne];exact z3
         have HZ:=Lib.hid (HBAD.out (by rw [HCF.out,decide_eq_false (by omega)];rfl));clear z3;go_wp2_with fail;go_ret;exact ⟨retB HZ.out.symm,HX6.out.sx.bel⟩
     · have hlti2:¬ (k2:Int) < s.procs.length:=by omega
       have HZ:Hid (mayB m s=true):=Lib.hid (by rw [HV4.out];exact all_of fun j hj=>HJ.out j hj (by omega));clear HJ;go_wp2_with fail;go_ret;exact ⟨retB HZ.out.symm,HX.out.sx.bel⟩
end Go.Proofs.YthfldokfnjpkmaaGreatDoor
namespace Go.Proofs.YthfldokfnjpkmaaGreatDoor
open Go.ChangeShapes Go.WideShapes Go.ChangeAt Go.RowKit
theorem Ys.sinfo {w W:World} {CS SS:Array Value} {h:MH} {m:ModelD} {hs:SH} {s:StateD} (k:Ys w CS SS h m hs s W): (Tryz.prog.info? 33).map (·.size)=some SS.size:=by
 rw [k.es];show _=some 6;kernel_rfl
set_option maxRecDepth 100000 in
set_option maxHeartbeats 2000000 in
theorem check12H {B:Nat} {h:MH} {m:ModelD} {hs:SH} {s:StateD} (hab:ArgsB m) (w:World) (hB:B≤w.heap.size) (hmd:MD B w h m) (hsd:SD B w hs s):Calls Tryz.prog 16 #[mV h m,sV hs s] w fun e w'=>e= .returned (.int .i64 (stateE m s))∧Below w.heap.size w w':=by
 have HMAY:=Lib.hid (fun (hg:goodB m=true) (W:World) (hd:MD W.heap.size W h m) (hsd:SD W.heap.size W hs s)=>may12H (good_head hg).1 W hd hsd);have HGOOD:=Lib.hid (fun (W:World) (hd:MD W.heap.size W h m)=>mayH W hd hab);obtain ⟨CS,hCS⟩:∃c,c=mCells h m:=⟨_,rfl⟩;obtain ⟨SS,hSS⟩:∃c,c=sCells hs s:=⟨_,rfl⟩;have HX:=Lib.hid (Ys.new (hmd.lift hB) hCS (hsd.lift hB) hSS);have HV:Hid (stateE m s=if goodB m=true then (if mayB m s=true then 0 else 41) else 40):=Lib.hid rfl;have HG:Hid (goodB m= ((checkL m).1 == 0)):=Lib.hid (by unfold goodB;rw [Bool.eq_iff_iff,decide_eq_true_eq,beq_iff_eq]);unfold mV at HMAY HGOOD ⊢;unfold sV at HMAY ⊢;rw [←hCS] at HMAY HGOOD ⊢;rw [←hSS] at HMAY ⊢;clear hmd hsd hCS hSS hab;go_enter Tryz.func16,Tryz.ntmps16;go_upto_region 1 with fail
 generalize (w.alloc (.cells CS 29)).alloc (.cells SS 33)=W1 at HX ⊢;go_wp2_with (refine wpList_load_row rfl _ _ rfl _ rfl _ CS _ _ HX.out.mx.bx.box Tryz.underlying29 rfl HX.out.mx.info ?_);refine (HGOOD.out W1 HX.out.mx.here).mono ?_;rintro e W2 ⟨rfl,hb2⟩;have HX2:=Lib.hid (HX.out.below hb2);clear hb2 HX;obtain ⟨u,hu⟩:∃u,((checkL m).1 == 0)=u:=⟨_,rfl⟩;rw [hu] at HG;rw [hu];clear hu HGOOD;cases u
 · have HZ:Hid (stateE m s=40):=Lib.hid (by rw [HV.out,HG.out];rfl);go_wp2_with fail;go_ret;exact ⟨retI HZ.out.symm,HX2.out.sx.bel⟩
 go_wp2_with (first | refine wpList_load_row rfl _ _ rfl _ rfl _ CS _ _ HX2.out.mx.bx.box Tryz.underlying29 rfl HX2.out.mx.info ?_ | refine wpList_load_row rfl _ _ rfl _ rfl _ SS _ _ HX2.out.sx.box Tryz.underlying33 rfl HX2.out.sinfo ?_);refine (HMAY.out HG.out W2 HX2.out.mx.here (HX2.out.sd.lift HX2.out.sx.bel.size)).mono ?_;rintro e W3 ⟨rfl,hb3⟩;have HX3:=Lib.hid (HX2.out.below hb3);clear hb3 HX2 HMAY;obtain ⟨v,hv⟩:∃v,mayB m s=v:=⟨_,rfl⟩;rw [hv] at HV;rw [hv];clear hv;cases v
 · have HZ:Hid (stateE m s=41):=Lib.hid (by rw [HV.out,HG.out];rfl);go_wp2_with fail;go_ret;exact ⟨retI HZ.out.symm,HX3.out.sx.bel⟩
 · have HZ:Hid (stateE m s=0):=Lib.hid (by rw [HV.out,HG.out];rfl);go_wp2_with fail;go_ret;exact ⟨retI HZ.out.symm,HX3.out.sx.bel⟩
end Go.Proofs.YthfldokfnjpkmaaGreatDoor
namespace Go.Proofs.YthfldokfnjpkmaaGreatDoor
open Go.ChangeShapes Go.WideShapes Go.ChangeAt Go.RowKit
set_option maxRecDepth 100000
variable {H:Type} {enc:TypeId × Value→H} {W:World} {base:Nat} {sp:Nat→Bool} {hd:Bool} {fuel:Nat}
theorem opens_msg:Opens enc W base sp hd 82 (fun g a l=>msgAt W.heap.size W g a l):=opens_sli Tryz.underlying82 c_int64.1 (by decide) c_int64.2 (by decide) (opens_int Tryz.underlying2)
theorem opens_msgs:Opens enc W base sp hd 79 (fun g a l=>Sli W.heap.size W g a 1 (msgAt W.heap.size W) l):=opens_sli Tryz.underlying79 (by kernel_rfl) (by decide) (bb:=24) (by kernel_rfl) (by decide) opens_msg
theorem opens_chan:Opens enc W base sp hd 81 (chanAt W.heap.size W):=by
 intro g off h;have P:=open_parts Tryz.underlying81 h;obtain ⟨x0,h0⟩:=opens_int Tryz.underlying3 _ _ (P 0 _ rfl);obtain ⟨x1,h1⟩:=opens_msgs _ _ (P 1 _ rfl);exact ⟨⟨x0,x1⟩,h0,h1⟩
theorem opens_process:Opens enc W base sp hd 60 (processAt W.heap.size W):=by
 intro g off h;have P:=open_parts Tryz.underlying60 h;obtain ⟨x0,h0⟩:=opens_int Tryz.underlying3 _ _ (P 0 _ rfl);obtain ⟨x1,h1⟩:=opens_int Tryz.underlying3 _ _ (P 1 _ rfl);obtain ⟨x2,h2⟩:=opens_int Tryz.underlying3 _ _ (P 2 _ rfl);obtain ⟨x3,h3⟩:=opens_int64s _ _ (P 3 _ rfl);exact ⟨⟨x0,x1,x2,x3⟩,h0,h1,h2,h3⟩
theorem six_of {α:Type} {l:List α} (h:l.length=6):∃a b c d e f,l= [a,b,c,d,e,f]:=by
 match l,h with
 | [a,b,c,d,e,f],_=>exact ⟨a,b,c,d,e,f,rfl⟩
theorem open_stateL {l:List Value} {y:DataW H × List MemPlace} (hl:l.length=6) (h:DataW.trod enc Tryz.prog W base sp hd fuel 33 l=some y) (hw:Fits 33 y.1):∃h s,l= (sCells h s).toList∧SD W.heap.size W h s:=by
 have P:=open_fits Tryz.underlying33 h hw;obtain ⟨n0,y0,p0,w0⟩:=P 0 _ rfl;obtain ⟨n1,y1,p1,w1⟩:=P 1 _ rfl;obtain ⟨n2,y2,p2,w2⟩:=P 2 _ rfl;obtain ⟨n3,y3,p3,w3⟩:=P 3 _ rfl;obtain ⟨n4,y4,p4,w4⟩:=P 4 _ rfl;obtain ⟨n5,y5,p5,w5⟩:=P 5 _ rfl;clear P;obtain ⟨o0,l0,c0,e0,r0⟩:=open_sli Tryz.underlying23 c_int64.1 (by decide) c_int64.2 (by decide) (opens_int Tryz.underlying2) p0 w0;obtain ⟨o1,l1,c1,e1,r1⟩:=open_sli Tryz.underlying30 (kk:=2) (by kernel_rfl) (by decide) (bb:=32) (by kernel_rfl) (by decide) opens_chan p1 w1;obtain ⟨o2,l2,c2,e2,r2⟩:=open_sli Tryz.underlying31 (kk:=4) (by kernel_rfl) (by decide) (bb:=48) (by kernel_rfl) (by decide) opens_process p2 w2;obtain ⟨v3,e3,_,_⟩:=DataW.trod_int Tryz.underlying3 p3;obtain ⟨v4,e4,_,_⟩:=DataW.trod_int Tryz.underlying3 p4;obtain ⟨v5,e5,_,_⟩:=DataW.trod_int Tryz.underlying3 p5;have f0:=(one_cs (l:=l) (o:=0) (by omega) (by kernel_rfl)).symm.trans e0;have f1:=(one_cs (l:=l) (o:=1) (by omega) (by kernel_rfl)).symm.trans e1;have f2:=(one_cs (l:=l) (o:=2) (by omega) (by kernel_rfl)).symm.trans e2;have f3:=(one_cs (l:=l) (o:=3) (by omega) (by kernel_rfl)).symm.trans e3;have f4:=(one_cs (l:=l) (o:=4) (by omega) (by kernel_rfl)).symm.trans e4;have f5:=(one_cs (l:=l) (o:=5) (by omega) (by kernel_rfl)).symm.trans e5;clear e0 e1 e2 e3 e4 e5 p0 p1 p2 p3 p4 p5 w0 w1 w2 w3 w4 w5 h hw;obtain ⟨a0,a1,a2,a3,a4,a5,rfl⟩:=six_of hl;simp only [List.getElem_cons_zero,List.getElem_cons_succ,List.cons.injEq,and_true] at f0 f1 f2 f3 f4 f5;subst f0 f1 f2 f3 f4 f5;exact ⟨⟨o0,c0,o1,c1,o2,c2⟩,⟨l0,l1,l2,v3,v4,v5⟩,rfl,r0,r1,r2⟩
theorem open_state {v:Value} {r:Reach} {b0:Nat} {d:DataW H} {p:List MemPlace} (hv:Value.okWide Tryz.prog W r b0 33 v) (h:DataW.Trod enc Tryz.prog W base sp hd 33 v d p) (hw:Fits 33 d):∃h s,v=sV h s∧SD W.heap.size W h s:=by
 obtain ⟨cs,rfl,hsz⟩:=okWide_struct Tryz.underlying33 hv;obtain ⟨l⟩:=cs;have hC:Tryz.prog.cellsOf 33=6:=by kernel_rfl
 have hl:l.length=6:=hsz.trans hC;obtain ⟨fu,hf⟩:=h;obtain ⟨hs,s,e,hsd⟩:=open_stateL hl hf hw;subst e;exact ⟨hs,s,rfl,hsd⟩
end Go.Proofs.YthfldokfnjpkmaaGreatDoor
