/- Are two states the same, as the document has it. -/
import Derived.Test.YtnoibjahliafpaaDoorM35
set_option linter.unusedVariables false
set_option linter.unusedSimpArgs false
namespace Go.Proofs.YtnoibjahliafpaaDoor
open Go.ChangeShapes Go.WideShapes Go.ChangeAt Go.RowKit
noncomputable def sameB (s t:StateD):Bool:= @decide (s=t) (Classical.propDecidable _)
theorem sameB_yes {s t:StateD} (h:s=t):sameB s t=true:=by unfold sameB;simp [h]
theorem sameB_no {s t:StateD} (h:s≠t):sameB s t=false:=by unfold sameB;simp [h]
theorem state_ext {s t:StateD} (h1:s.globals=t.globals) (h2:s.chans=t.chans) (h3:s.procs=t.procs) (h4:s.last=t.last) (h5:s.alone=t.alone) (h6:s.claim=t.claim):s=t:=by
 cases s;cases t;simp_all
theorem chan_ext {a b:ChanD} (h:chanEqB a b=true):a=b:=by
 have:=of_decide_eq_true h;cases a;cases b;simp_all
theorem chan_next {a b:ChanD} (h:chanEqB a b=false):a≠b:=fun e=>by
 have:=of_decide_eq_false h;subst e;exact this ⟨rfl,rfl⟩
theorem proc_ext {a b:ProcessD} (h1:a.type=b.type) (h2:a.loc=b.loc) (h3:a.prio=b.prio) (h4:a.frame=b.frame):a=b:=by
 cases a;cases b;simp_all
structure Z2 (w:World) (B:Nat) (hs ht:SH) (s t:StateD) (W:World):Prop where
 a:Bq w w.heap.size (sCells hs s) 33 W
 b:Bq w (w.heap.size+1) (sCells ht t) 33 W
 sd:SD B W hs s
 td:SD B W ht t
 le:B≤w.heap.size
theorem Z2.below {w W W':World} {B:Nat} {hs ht:SH} {s t:StateD} (k:Z2 w B hs ht s t W) (hb:Below W.heap.size W W'):Z2 w B hs ht s t W':=
 have hB:=Nat.le_trans k.le k.a.bel.size
 ⟨k.a.below hb,k.b.below hb,k.sd.below (hb.mono hB),k.td.below (hb.mono hB),k.le⟩
theorem Z2.new {w:World} {B:Nat} {hs ht:SH} {s t:StateD} (hB:B≤w.heap.size) (h1:SD B w hs s) (h2:SD B w ht t):Z2 w B hs ht s t ((w.alloc (.cells (sCells hs s) 33)).alloc (.cells (sCells ht t) 33)):=by
 have hb:Below w.heap.size w ((w.alloc (.cells (sCells hs s) 33)).alloc (.cells (sCells ht t) 33)):=((Below.refl _ _).alloc (Nat.le_refl _) _).alloc (by simp) _;exact ⟨(Bq.new (Below.refl _ _) _ _).below (ball _),⟨new_at (by simp),hb⟩,h1.below (hb.mono hB),h2.below (hb.mono hB),hB⟩
theorem Z2.leW {w W:World} {B:Nat} {hs ht:SH} {s t:StateD} (k:Z2 w B hs ht s t W):B≤W.heap.size:=Nat.le_trans k.le k.a.bel.size
set_option maxRecDepth 100000 in
set_option maxHeartbeats 2000000 in
theorem same12H {B:Nat} (s t:StateD) (hs ht:SH) (w:World) (hB:B≤w.heap.size) (h1:SD B w hs s) (h2:SD B w ht t):
 Calls Tryd.prog 7 #[sV hs s,sV ht t] w fun e w'=>e= .returned (.bool (sameB s t))∧Below w.heap.size w w':=by
 have HX:=Lib.hid (Z2.new hB h1 h2);have lg1:=h1.globals.1;have lg2:=h2.globals.1;have lc1:=h1.chans.1;have lc2:=h2.chans.1;have lp1:=h1.procs.1;have lp2:=h2.procs.1;clear h1 h2 hB;unfold sCells at HX;unfold sV sCells;go_enter Tryd.func7,Tryd.ntmps7;go_upto_region 1 with fail
 generalize (w.alloc (.cells #[.slice hs.go s.globals.length hs.gc,.slice hs.co s.chans.length hs.cc,.slice hs.po s.procs.length hs.pc,.int .i64 s.last,.int .i64 s.alone,.int .i64 s.claim] 33)).alloc (.cells #[.slice ht.go t.globals.length ht.gc,.slice ht.co t.chans.length ht.cc,.slice ht.po t.procs.length ht.pc,.int .i64 t.last,.int .i64 t.alone,.int .i64 t.claim] 33)=W0 at HX ⊢;have x0:W0.cell? ⟨w.heap.size,0,none⟩=some (.slice hs.go s.globals.length hs.gc):=HX.out.a.cell rfl;have y0:W0.cell? ⟨w.heap.size+1,0,none⟩=some (.slice ht.go t.globals.length ht.gc):=HX.out.b.cell rfl;have HN:=Lib.hid (numbers12H (B:=B) s.globals t.globals hs.go ht.go hs.gc ht.gc W0 HX.out.leW HX.out.sd.globals HX.out.td.globals);go_wp2_with fail;refine HN.out.mono ?_;rintro e W1 ⟨rfl,hb1⟩;have HX1:=Lib.hid (HX.out.below hb1);clear hb1 HN HX x0 y0;have x1:W1.cell? ⟨w.heap.size,1,none⟩=some (.slice hs.co s.chans.length hs.cc):=HX1.out.a.cell rfl;have x2:W1.cell? ⟨w.heap.size,2,none⟩=some (.slice hs.po s.procs.length hs.pc):=HX1.out.a.cell rfl;have x3:W1.cell? ⟨w.heap.size,3,none⟩=some (.int .i64 s.last):=HX1.out.a.cell rfl;have x4:W1.cell? ⟨w.heap.size,4,none⟩=some (.int .i64 s.alone):=HX1.out.a.cell rfl;have x5:W1.cell? ⟨w.heap.size,5,none⟩=some (.int .i64 s.claim):=HX1.out.a.cell rfl;have y1:W1.cell? ⟨w.heap.size+1,1,none⟩=some (.slice ht.co t.chans.length ht.cc):=HX1.out.b.cell rfl;have y2:W1.cell? ⟨w.heap.size+1,2,none⟩=some (.slice ht.po t.procs.length ht.pc):=HX1.out.b.cell rfl;have y3:W1.cell? ⟨w.heap.size+1,3,none⟩=some (.int .i64 t.last):=HX1.out.b.cell rfl;have y4:W1.cell? ⟨w.heap.size+1,4,none⟩=some (.int .i64 t.alone):=HX1.out.b.cell rfl;have y5:W1.cell? ⟨w.heap.size+1,5,none⟩=some (.int .i64 t.claim):=HX1.out.b.cell rfl;obtain ⟨b0,hb0⟩:∃b,decide (s.globals=t.globals)=b:=⟨_,rfl⟩;rw [hb0];have HG:=Lib.hid hb0;clear hb0;cases b0
 · have HZ:Hid (sameB s t=false):=Lib.hid (sameB_no fun e=>of_decide_eq_false HG.out (by rw [e]));go_wp2_with fail;go_ret;exact ⟨retB HZ.out.symm,HX1.out.a.bel⟩
 by_cases z3:s.last=t.last;rotate_left
 · have d3: (s.last != t.last)=true:=by rw [bne_iff_ne];exact z3
   have HZ:Hid (sameB s t=false):=Lib.hid (sameB_no fun e=>z3 (by rw [e]));clear z3;go_wp2_with fail;go_ret;exact ⟨retB HZ.out.symm,HX1.out.a.bel⟩
 have d3: (s.last != t.last)=false:=by rw [bne_eq_false_iff_eq];exact z3
 have H3:=Lib.hid z3;clear z3;by_cases z4:s.alone=t.alone;rotate_left
 · have d4: (s.alone != t.alone)=true:=by rw [bne_iff_ne];exact z4
   have HZ:Hid (sameB s t=false):=Lib.hid (sameB_no fun e=>z4 (by rw [e]));clear z4;go_wp2_with fail;go_ret;exact ⟨retB HZ.out.symm,HX1.out.a.bel⟩
 have d4: (s.alone != t.alone)=false:=by rw [bne_eq_false_iff_eq];exact z4
 have H4:=Lib.hid z4;clear z4;by_cases z5:s.claim=t.claim;rotate_left
 · have d5: (s.claim != t.claim)=true:=by rw [bne_iff_ne];exact z5
   have HZ:Hid (sameB s t=false):=Lib.hid (sameB_no fun e=>z5 (by rw [e]));clear z5;go_wp2_with fail;go_ret;exact ⟨retB HZ.out.symm,HX1.out.a.bel⟩
 have d5: (s.claim != t.claim)=false:=by rw [bne_eq_false_iff_eq];exact z5
 have H5:=Lib.hid z5;clear z5;by_cases z1:s.chans.length=t.chans.length;rotate_left
 · have d1: ((s.chans.length:Int) != (t.chans.length:Int))=true:=by rw [bne_iff_ne];omega
   have HZ:Hid (sameB s t=false):=Lib.hid (sameB_no fun e=>z1 (by rw [e]));clear z1;go_wp2_with fail;go_ret;exact ⟨retB HZ.out.symm,HX1.out.a.bel⟩
 have d1: ((s.chans.length:Int) != (t.chans.length:Int))=false:=by rw [bne_eq_false_iff_eq];omega
 have H1:=Lib.hid z1;have l1:s.chans.length≤t.chans.length:=by omega
 clear z1;by_cases z2:s.procs.length=t.procs.length;rotate_left
 · have d2: ((s.procs.length:Int) != (t.procs.length:Int))=true:=by rw [bne_iff_ne];omega
   have HZ:Hid (sameB s t=false):=Lib.hid (sameB_no fun e=>z2 (by rw [e]));clear z2;go_wp2_with fail;go_ret;exact ⟨retB HZ.out.symm,HX1.out.a.bel⟩
 have d2: ((s.procs.length:Int) != (t.procs.length:Int))=false:=by rw [bne_eq_false_iff_eq];omega
 have H2:=Lib.hid z2;have l2:s.procs.length≤t.procs.length:=by omega
 clear z2;go_wp2_with fail;clear d1 d2 d3 d4 d5 x1 x2 x3 x4 x5 y1 y2 y3 y4 y5
 go_loopw [6] (fun iv W=>∃i:Nat,iv= .int .i64 i∧i≤s.chans.length∧Hid (∀j (hj:j < s.chans.length) (hj2:j < t.chans.length),j < i→s.chans[j]=t.chans[j])∧Hid (Z2 w B hs ht s t W)) (fun iv _=>s.chans.length - (intOf iv).toNat)
 case atStart=>exact ⟨0,rfl,by omega,Lib.hid fun j _ _ h=>by omega,HX1⟩
 case round=>
  clear HX1;obtain ⟨i,rfl,hi,HJ,HX⟩:=hrel;have hi0: (0:Int)≤i:=by omega
  have x1:wr.cell? ⟨w.heap.size,1,none⟩=some (.slice hs.co s.chans.length hs.cc):=HX.out.a.cell rfl;by_cases hlt:i < s.chans.length
  · have hlti: (i:Int) < s.chans.length:=by omega
    have hlt2:i < t.chans.length:=by omega
    have hlti2: (i:Int) < t.chans.length:=by omega
    obtain ⟨g1,off1,ho1,hg1,ha⟩:=HX.out.sd.chans.cell hlt;obtain ⟨g2,off2,ho2,hg2,hb⟩:=HX.out.td.chans.cell hlt2;obtain ⟨x,hx⟩:∃q,s.chans[i]=q:=⟨_,rfl⟩;obtain ⟨y,hy⟩:∃q,t.chans[i]=q:=⟨_,rfl⟩;rw [hx] at ha;rw [hy] at hb;obtain ⟨m1,c1,e1,hr1⟩:=ha.queue;obtain ⟨m2,c2,e2,hr2⟩:=hb.queue;have f1:=ha.c0;have f2:=hb.c0;have HC:Hid (∀W,Below wr.heap.size wr W→Calls Tryd.prog 18 #[.agg #[.int .i64 x.shape,.slice m1 x.queue.length c1],.agg #[.int .i64 y.shape,.slice m2 y.queue.length c2]] W fun e w'=>e= .returned (.bool (chanEqB x y))∧Below W.heap.size W w'):=Lib.hid fun W hbw=>sameChan12H (B:=B) x y m1 m2 c1 c2 W (Nat.le_trans HX.out.leW hbw.size) (hr1.mono fun _ _ _ hg=>msgAt.below (hbw.mono HX.out.leW) hg) (hr2.mono fun _ _ _ hg=>msgAt.below (hbw.mono HX.out.leW) hg)
    have HS2:Hid (x=y→∀j (hj:j < s.chans.length) (hj2:j < t.chans.length),j < i+1→s.chans[j]=t.chans[j]):=Lib.hid fun h j hj hj2 hji=>by
     by_cases e:j=i
     · subst e;rw [hx,hy,h]
     · exact HJ.out j hj hj2 (by omega)
    have HN:Hid (x≠y→sameB s t=false):=Lib.hid fun h=>sameB_no fun e=>h (by rw [←hx,←hy];simp only [e])
    have HW:Hid (∀W,Below wr.heap.size wr W→W.cell? ⟨w.heap.size,1,none⟩=some (.slice hs.co s.chans.length hs.cc)∧W.cell? ⟨w.heap.size+1,1,none⟩=some (.slice ht.co t.chans.length ht.cc)∧W.cell? ⟨g1,off1+i*2,none⟩=some (.int .i64 x.shape)∧W.cell? ⟨g1,off1+i*2+1,none⟩=some (.slice m1 x.queue.length c1)∧W.cell? ⟨g2,off2+i*2,none⟩=some (.int .i64 y.shape)∧W.cell? ⟨g2,off2+i*2+1,none⟩=some (.slice m2 y.queue.length c2)):=Lib.hid fun W hbw=>
     have q1:=Nat.lt_of_lt_of_le hg1 HX.out.leW;have q2:=Nat.lt_of_lt_of_le hg2 HX.out.leW
     ⟨(HX.out.a.below hbw).cell rfl,(HX.out.b.below hbw).cell rfl,(hbw.cell (p:=⟨g1,off1+i*2,none⟩) q1).trans f1,(hbw.cell (p:=⟨g1,off1+i*2+1,none⟩) q1).trans e1,(hbw.cell (p:=⟨g2,off2+i*2,none⟩) q2).trans f2,(hbw.cell (p:=⟨g2,off2+i*2+1,none⟩) q2).trans e2⟩
    clear hx hy hr1 hr2 ha hb;obtain ⟨bb,hbb⟩:∃q,chanEqB x y=q:=⟨_,rfl⟩;have HBQ:=Lib.hid hbb;rw [hbb] at HC;clear hbb;go_upto_region 7 with fail
    refine wp_region_kept (by kernel_rfl) (by kernel_rfl) (fun ι hne f hf hcl=> ?_);have z1:∀n,(f n).cell? ⟨w.heap.size,1,none⟩=some (.slice (some ⟨g1,off1,none⟩) s.chans.length hs.cc):=fun n=>by rw [←ho1];exact (HW.out _ (hf n)).1
    have z2:∀n,(f n).cell? ⟨w.heap.size+1,1,none⟩=some (.slice (some ⟨g2,off2,none⟩) t.chans.length ht.cc):=fun n=>by rw [←ho2];exact (HW.out _ (hf n)).2.1
    have z3:∀n,(f n).cell? ⟨g1,off1+i*2,none⟩=some (.int .i64 x.shape):=fun n=>(HW.out _ (hf n)).2.2.1
    have z4:∀n,(f n).cell? ⟨g1,off1+i*2+1,none⟩=some (.slice m1 x.queue.length c1):=fun n=>(HW.out _ (hf n)).2.2.2.1
    have z5:∀n,(f n).cell? ⟨g2,off2+i*2,none⟩=some (.int .i64 y.shape):=fun n=>(HW.out _ (hf n)).2.2.2.2.1
    have z6:∀n,(f n).cell? ⟨g2,off2+i*2+1,none⟩=some (.slice m2 y.queue.length c2):=fun n=>(HW.out _ (hf n)).2.2.2.2.2
    have HA:=Lib.hid (fun n=>HC.out _ (hf n));have HF:=Lib.hid hcl;clear hcl hf x1 e1 e2 f1 f2 HC ho1 ho2 hg1 hg2
    repeat (go_big_quiet_step ((go_at_call 18;with_reducible exact kept_of HF.out _ (HA.out _))))
    refine wpQuiet_nil ?_;intro W1 hb1;have HX1:=Lib.hid (HX.out.below hb1);clear hb1 z1 z2 z3 z4 z5 z6 HX HW;cases bb
    · have HZ:=Lib.hid (HN.out (chan_next HBQ.out));go_wp2_with fail;go_ret;exact ⟨retB HZ.out.symm,HX1.out.a.bel⟩
    · have HZ:=Lib.hid (HS2.out (chan_ext HBQ.out));go_wp2_with fail;go_roundw;case rel=>exact ⟨i+1,by go_num,by omega,HZ,HX1⟩
      case measure=>simp [intOf];omega
  have hlti:¬ (i:Int) < s.chans.length:=by omega
  have HCH:Hid (s.chans=t.chans):=Lib.hid (list_eq_of H1.out fun j hj hj2=>HJ.out j hj hj2 (by omega));clear HJ hlt;go_wp2_with fail;clear x1
  go_loopw [7] (fun jv W=>∃j:Nat,jv= .int .i64 j∧j≤s.procs.length∧Hid (∀k (hk:k < s.procs.length) (hk2:k < t.procs.length),k < j→s.procs[k]=t.procs[k])∧Hid (Z2 w B hs ht s t W)) (fun jv _=>s.procs.length - (intOf jv).toNat)
  case atStart=>exact ⟨0,rfl,by omega,Lib.hid fun j _ _ h=>by omega,HX⟩
  case round=>
   clear HX;obtain ⟨j,rfl,hj,HJ,HX⟩:=hrel;have hj0: (0:Int)≤j:=by omega
   have x2:wr.cell? ⟨w.heap.size,2,none⟩=some (.slice hs.po s.procs.length hs.pc):=HX.out.a.cell rfl;by_cases hlt:j < s.procs.length
   · have hltj: (j:Int) < s.procs.length:=by omega
     have hlt2:j < t.procs.length:=by omega
     have hltj2: (j:Int) < t.procs.length:=by omega
     obtain ⟨g1,off1,ho1,hg1,ha⟩:=HX.out.sd.procs.cell hlt;rw [ho1] at x2;obtain ⟨x,hx⟩:∃q,s.procs[j]=q:=⟨_,rfl⟩;rw [hx] at ha;obtain ⟨m1,c1,q3,hr1⟩:=ha.frame;have q0:=ha.c0;have q1:=ha.c1;have q2:=ha.c2;have HR1:Hid (∀W,Below wr.heap.size wr W→Row B m1 1 (intAt W) x.frame):=Lib.hid fun W hb=>hr1.mono fun _ _ _ hg=>intAt.below (hb.mono HX.out.leW) hg
     have HX1:=Lib.hid (HX.out.below (ball (.cells #[.int .i64 x.type,.int .i64 x.loc,.int .i64 x.prio,.slice m1 x.frame.length c1] 63)));have HP1:Hid (Bq wr wr.heap.size #[.int .i64 x.type,.int .i64 x.loc,.int .i64 x.prio,.slice m1 x.frame.length c1] 63 (wr.alloc (.cells #[.int .i64 x.type,.int .i64 x.loc,.int .i64 x.prio,.slice m1 x.frame.length c1] 63))):=Lib.hid (Bq.new (Below.refl _ _) _ _);clear ha ho1 hg1 hr1;go_upto_region 14 with fail
     generalize wr.alloc (.cells #[.int .i64 x.type,.int .i64 x.loc,.int .i64 x.prio,.slice m1 x.frame.length c1] 63)=W1 at HX1 HP1 ⊢;obtain ⟨P,hP⟩:∃P,wr.heap.size=P:=⟨_,rfl⟩;have HPS:=Lib.hid hP;rw [hP] at HP1 ⊢;clear hP x2 q0 q1 q2 q3;have y2:W1.cell? ⟨w.heap.size+1,2,none⟩=some (.slice ht.po t.procs.length ht.pc):=HX1.out.b.cell rfl;obtain ⟨g2,off2,ho2,hg2,hb⟩:=HX1.out.td.procs.cell hlt2;rw [ho2] at y2;obtain ⟨y,hy⟩:∃q,t.procs[j]=q:=⟨_,rfl⟩;rw [hy] at hb;obtain ⟨m2,c2,q3,hr2⟩:=hb.frame;have q0:=hb.c0;have q1:=hb.c1;have q2:=hb.c2;have HR2:=Lib.hid hr2;have HX2:=Lib.hid (HX1.out.below (ball (.cells #[.int .i64 y.type,.int .i64 y.loc,.int .i64 y.prio,.slice m2 y.frame.length c2] 63)));have HP2:=Lib.hid (HP1.out.below (ball (.cells #[.int .i64 y.type,.int .i64 y.loc,.int .i64 y.prio,.slice m2 y.frame.length c2] 63)));have HQ2:Hid (Bq W1 W1.heap.size #[.int .i64 y.type,.int .i64 y.loc,.int .i64 y.prio,.slice m2 y.frame.length c2] 63 (W1.alloc (.cells #[.int .i64 y.type,.int .i64 y.loc,.int .i64 y.prio,.slice m2 y.frame.length c2] 63))):=Lib.hid (Bq.new (Below.refl _ _) _ _);have hlB1:=HX1.out.leW;have HLB:=Lib.hid hlB1;clear hb ho2 hg2 hr2 HX1 HP1 hlB1;go_upto_region 15 with fail
     generalize W1.alloc (.cells #[.int .i64 y.type,.int .i64 y.loc,.int .i64 y.prio,.slice m2 y.frame.length c2] 63)=W2 at HX2 HP2 HQ2 ⊢;have HN1:Hid (Calls Tryd.prog 17 #[.slice m1 x.frame.length c1,.slice m2 y.frame.length c2] W2 fun e w'=>e= .returned (.bool (decide (x.frame=y.frame)))∧Below W2.heap.size W2 w'):=Lib.hid (numbers12H (B:=B) x.frame y.frame m1 m2 c1 c2 W2 HX2.out.leW (HR1.out _ (HPS.out ▸ HP2.out.bel)) (HR2.out.mono fun _ _ _ hg=>intAt.below (HQ2.out.bel.mono HLB.out) hg));obtain ⟨Q,hQ⟩:∃Q,W1.heap.size=Q:=⟨_,rfl⟩;rw [hQ] at HQ2 ⊢;clear hQ y2 q0 q1 q2 q3;have p3:W2.cell? ⟨P,3,none⟩=some (.slice m1 x.frame.length c1):=HP2.out.cell rfl;have r3:W2.cell? ⟨Q,3,none⟩=some (.slice m2 y.frame.length c2):=HQ2.out.cell rfl;obtain ⟨bb,hbb⟩:∃q,decide (x.frame=y.frame)=q:=⟨_,rfl⟩;have HBQ:=Lib.hid hbb;rw [hbb] at HN1;clear hbb;go_wp2_with fail;refine HN1.out.mono ?_;rintro e W3 ⟨rfl,hb3⟩;have HX3:=Lib.hid (HX2.out.below hb3);have HP3:=Lib.hid (HP2.out.below hb3);have HQ3:=Lib.hid (HQ2.out.below hb3);clear hb3 HN1 HX2 HP2 HQ2 p3 r3;have p0:W3.cell? ⟨P,0,none⟩=some (.int .i64 x.type):=HP3.out.cell rfl;have p1:W3.cell? ⟨P,1,none⟩=some (.int .i64 x.loc):=HP3.out.cell rfl;have p2:W3.cell? ⟨P,2,none⟩=some (.int .i64 x.prio):=HP3.out.cell rfl;have r0:W3.cell? ⟨Q,0,none⟩=some (.int .i64 y.type):=HQ3.out.cell rfl;have r1:W3.cell? ⟨Q,1,none⟩=some (.int .i64 y.loc):=HQ3.out.cell rfl;have r2:W3.cell? ⟨Q,2,none⟩=some (.int .i64 y.prio):=HQ3.out.cell rfl;have HN:Hid (x≠y→sameB s t=false):=Lib.hid fun h=>sameB_no fun e=>h (by rw [←hx,←hy];simp only [e])
     have HS2:Hid (x=y→∀k (hk:k < s.procs.length) (hk2:k < t.procs.length),k < j+1→s.procs[k]=t.procs[k]):=Lib.hid fun h k hk hk2 hkj=>by
      by_cases e:k=j
      · subst e;rw [hx,hy,h]
      · exact HJ.out k hk hk2 (by omega)
     clear hx hy HP3 HQ3;cases bb
     · have HZ:=Lib.hid (HN.out fun e=>of_decide_eq_false HBQ.out (by rw [e]));go_wp2_with fail;go_ret;exact ⟨retB HZ.out.symm,HX3.out.a.bel⟩
     by_cases z0:x.type=y.type;rotate_left
     · have d0: (x.type != y.type)=true:=by rw [bne_iff_ne];exact z0
       have HZ:=Lib.hid (HN.out fun e=>z0 (by rw [e]));clear z0;go_wp2_with fail;go_ret;exact ⟨retB HZ.out.symm,HX3.out.a.bel⟩
     have d0: (x.type != y.type)=false:=by rw [bne_eq_false_iff_eq];exact z0
     have H0:=Lib.hid z0;clear z0;by_cases z1:x.loc=y.loc;rotate_left
     · have d1: (x.loc != y.loc)=true:=by rw [bne_iff_ne];exact z1
       have HZ:=Lib.hid (HN.out fun e=>z1 (by rw [e]));clear z1;go_wp2_with fail;go_ret;exact ⟨retB HZ.out.symm,HX3.out.a.bel⟩
     have d1: (x.loc != y.loc)=false:=by rw [bne_eq_false_iff_eq];exact z1
     have H1':=Lib.hid z1;clear z1;by_cases z2:x.prio=y.prio;rotate_left
     · have d2: (x.prio != y.prio)=true:=by rw [bne_iff_ne];exact z2
       have HZ:=Lib.hid (HN.out fun e=>z2 (by rw [e]));clear z2;go_wp2_with fail;go_ret;exact ⟨retB HZ.out.symm,HX3.out.a.bel⟩
     have d2: (x.prio != y.prio)=false:=by rw [bne_eq_false_iff_eq];exact z2
     have HZ:=Lib.hid (HS2.out (proc_ext H0.out H1'.out z2 (of_decide_eq_true HBQ.out)));clear z2;go_wp2_with fail;go_roundw;case rel=>exact ⟨j+1,by go_num,by omega,HZ,HX3⟩
     case measure=>simp [intOf];omega
   · have hltj:¬ (j:Int) < s.procs.length:=by omega
     have HZ:Hid (sameB s t=true):=Lib.hid (sameB_yes (state_ext (of_decide_eq_true HG.out) HCH.out (list_eq_of H2.out fun k hk hk2=>HJ.out k hk hk2 (by omega)) H3.out H4.out H5.out));go_wp2_with fail;go_ret;exact ⟨retB HZ.out.symm,HX.out.a.bel⟩
end Go.Proofs.YtnoibjahliafpaaDoor
