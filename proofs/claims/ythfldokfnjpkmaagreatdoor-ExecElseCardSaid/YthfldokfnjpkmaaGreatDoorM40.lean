/- The document's table of a proctype: the head. -/
import Derived.Test.YthfldokfnjpkmaaGreatDoorM39
import Derived.Deep.CutRange
set_option linter.unusedVariables false
set_option linter.unusedSimpArgs false
namespace Go.Proofs.YthfldokfnjpkmaaGreatDoor
open Go.ChangeShapes Go.WideShapes Go.ChangeAt Go.RowKit
def pCells (p:ProcD) (fo io lo:Option Addr) (fc ic lc:Nat):Array Value:=#[.string p.name,.int .i64 p.params,.slice fo p.frame.length fc,.slice io p.init.length ic,.slice lo p.locs.length lc,.int .i64 p.start,.int .i64 p.final,.int .i64 p.active,.int .i64 p.prio,.int .i64 p.provided]
structure PC (w:World) (g a:Nat) (p:ProcD) (fo:Option Addr) (fc:Nat) (io:Option Addr) (ic:Nat) (lo:Option Addr) (lc:Nat):Prop where
 c0:w.cell? ⟨g,a,none⟩=some (.string p.name)
 c1:w.cell? ⟨g,a+1,none⟩=some (.int .i64 p.params)
 c2:w.cell? ⟨g,a+2,none⟩=some (.slice fo p.frame.length fc)
 c3:w.cell? ⟨g,a+3,none⟩=some (.slice io p.init.length ic)
 c4:w.cell? ⟨g,a+4,none⟩=some (.slice lo p.locs.length lc)
 c5:w.cell? ⟨g,a+5,none⟩=some (.int .i64 p.start)
 c6:w.cell? ⟨g,a+6,none⟩=some (.int .i64 p.final)
 c7:w.cell? ⟨g,a+7,none⟩=some (.int .i64 p.active)
 c8:w.cell? ⟨g,a+8,none⟩=some (.int .i64 p.prio)
 c9:w.cell? ⟨g,a+9,none⟩=some (.int .i64 p.provided)
theorem PC.below {B g a:Nat} {w w':World} {p:ProcD} {fo io lo:Option Addr} {fc ic lc:Nat} (h:PC w g a p fo fc io ic lo lc) (hg:g < B) (hb:Below B w w'):PC w' g a p fo fc io ic lo lc:=
 ⟨(hb.cell hg).trans h.c0,(hb.cell hg).trans h.c1,(hb.cell hg).trans h.c2,(hb.cell hg).trans h.c3,(hb.cell hg).trans h.c4,(hb.cell hg).trans h.c5,(hb.cell hg).trans h.c6,(hb.cell hg).trans h.c7,(hb.cell hg).trans h.c8,(hb.cell hg).trans h.c9⟩
theorem procAt.pcH {B g a:Nat} {w:World} {p:ProcD} (h:procAt B w g a p):∃fo fc io ic lo lc,PC w g a p fo fc io ic lo lc∧Row B fo 2 (tyAt w) p.frame∧Row B io 1 (intAt w) p.init∧Row B lo 7 (locAt B w) p.locs:=by
 obtain ⟨fo,fc,d1,d2⟩:=h.frame;obtain ⟨io,ic,a1,a2⟩:=h.init;obtain ⟨lo,lc,m1,m2⟩:=h.locs;exact ⟨fo,fc,io,ic,lo,lc,⟨h.c0,h.c1,d1,a1,m1,h.c5,h.c6,h.c7,h.c8,h.c9⟩,d2,a2,m2⟩
structure Px (w:World) (CS PS:Array Value) (h:MH) (m:ModelD) (W:World):Prop where
 mx:Mx w w.heap.size CS h m W
 pb:Bq w (w.heap.size+1) PS 73 W
theorem Px.below {w W W':World} {CS PS:Array Value} {h:MH} {m:ModelD} (k:Px w CS PS h m W) (hb:Below W.heap.size W W'):Px w CS PS h m W':=⟨k.mx.below hb,k.pb.below hb⟩
theorem Px.drewN {w W:World} {CS PS:Array Value} {h:MH} {m:ModelD} (k:Px w CS PS h m W) (n:Nat):Px w CS PS h m (W.drewN n):=k.below (bdrew (Below.refl _ _) n)
theorem Px.new {w:World} {CS PS:Array Value} {h:MH} {m:ModelD} (hd:MD w.heap.size w h m) (hC:CS=mCells h m):Px w CS PS h m ((w.alloc (.cells CS 29)).alloc (.cells PS 73)):=
 ⟨(Mx.new hd hC).below (ball _),new_at (by simp),(Mx.new hd hC).bx.bel.alloc (by simp) _⟩
def wayOK (n q:Nat) (T:List TransD):Bool:=(decide (q=0) || decide (T.length≠0)) && T.all (toB n)
theorem ways_ok {n:Nat} {o:List TransD} {e:List (List TransD)} (h:∀q (hq:q < (o :: e).length),wayOK n q (o :: e)[q]=true): (o.all (toB n) && e.all (escB n))=true:=by
 rw [Bool.and_eq_true];constructor
 · have:=h 0 (by simp);unfold wayOK at this;simpa using this
 · rw [List.all_eq_true];intro T hT;obtain ⟨j,hj,rfl⟩:=List.mem_iff_getElem.1 hT;have:=h (j+1) (by simpa using hj);unfold wayOK at this;unfold escB;simpa using this
theorem ways_bad {n q:Nat} {o:List TransD} {e:List (List TransD)} (hq:q < (o :: e).length) (h:wayOK n q (o :: e)[q]=false): (o.all (toB n) && e.all (escB n))=false:=by
 cases hc: (o.all (toB n) && e.all (escB n))
 · rfl
 · rw [Bool.and_eq_true] at hc
   exfalso
   match q,hq with
   | 0,_=>
     unfold wayOK at h;simp [hc.1] at h
   | j+1,hq=>
     have hj:j < e.length:=by simpa using hq
     have h1:=List.all_eq_true.1 hc.2 _ (List.getElem_mem hj);unfold escB at h1;unfold wayOK at h;simp at h h1;obtain ⟨h2,h3⟩:=h1;obtain ⟨t,ht,h4⟩:=h h2;rw [h3 t ht] at h4;cases h4
theorem dloc_is (p:ProcD) (cl:Bool) (l:LocD) (k:Nat):dtabLoc p cl (l,k)= ((locHeadB p k l && (!cl || looksLocB l)) && (l.out.all (toB p.locs.length) && l.esc.all (escB p.locs.length))):=by
 unfold dtabLoc;cases locHeadB p k l <;> cases (!cl || looksLocB l) <;> cases l.out.all (toB p.locs.length) <;> rfl
theorem many_le {l:LocD} (h1:l.out.length≤140737488355328) (h2:l.esc.length≤8) (h3:∀T ∈ l.esc,T.length≤140737488355328):manyL l≤1407374883553280:=by
 unfold manyL;have key:∀ (e:List (List TransD)),(∀T ∈ e,T.length≤140737488355328)→ (e.map List.length).sum≤e.length*140737488355328:=by
  intro e
  induction e with
  | nil=>intro _;simp
  | cons T r ih=>
    intro h;have h4:=ih fun T hT=>h T (by simp [hT])
    have h5:=h T (by simp);simp only [List.map_cons,List.sum_cons,List.length_cons];omega
 have:=key l.esc h3;omega
theorem tabHead_is {p:ProcD} {k:Nat} {l:LocD} {i claim:Int}:headT l.out.length l.esc.length l.dstep l.atomic ((k:Int) == p.final) (i == claim)= !(locHeadB p k l && (!(decide (i=claim)) || looksLocB l)):=by
 unfold headT locHeadB looksLocB;have e1: ((k:Int) == p.final)=decide ((k:Int)=p.final):=rfl;have e2: (i == claim)=decide (i=claim):=rfl;have e3:decide (8 < l.esc.length∨ (l.dstep=true∧l.atomic=true)∨ ((k:Int)=p.final∧ (0 < l.out.length∨0 < l.esc.length)))= (decide (8 < l.esc.length) || (l.dstep && l.atomic) || (decide ((k:Int)=p.final) && (decide (0 < l.out.length) || decide (0 < l.esc.length)))):=by
  rw [Bool.eq_iff_iff];simp [or_assoc]
 rw [e1,e2,e3];cases decide (8 < l.esc.length) <;> cases l.dstep <;> cases l.atomic <;> cases decide ((k:Int)=p.final) <;> cases decide (0 < l.out.length) <;> cases decide (0 < l.esc.length) <;> cases decide (i=claim) <;> rfl
set_option maxRecDepth 100000 in
set_option maxHeartbeats 8000000 in
theorem tableH {h:MH} {m:ModelD} (i:Nat) (p:ProcD) (hx:m.procs[i]? =some p) (w:World) (hd:MD w.heap.size w h m):Calls Tryz.prog 108 #[mV h m,.int .i64 i] w fun e w'=>e= .returned (.bool (dtableB m (p,i)))∧Below w.heap.size w w':=by
 obtain ⟨CS,hCS⟩:∃c,c=mCells h m:=⟨_,rfl⟩;have hi:=(List.getElem?_eq_some_iff.1 hx).1;have hii: (i:Int) < m.procs.length:=by omega
 have hi0: (0:Int)≤i:=by omega
 have l4:=hd.procs.1;have l6:=hd.exprs.1;obtain ⟨g,off,ho,hg,he⟩:=hd.procs.get hx;have HX0:=Lib.hid (Mx.new hd hCS);have c4:=HX0.out.c4;rw [ho] at c4;obtain ⟨fo,fc,io,ic,lo,lc,hpc0,hr1,hr2,hr3⟩:=he.pcH;have hpc:=hpc0.below hg (ball (.cells CS 29));have HR1:=Lib.hid hr1;have HR2:=Lib.hid hr2;have HR3:=Lib.hid hr3;have e0:=hpc.c0;have e1:=hpc.c1;have e2:=hpc.c2;have e3:=hpc.c3;have e4:=hpc.c4;have e5:=hpc.c5;have e6:=hpc.c6;have e7:=hpc.c7;have e8:=hpc.c8;have e9:=hpc.c9;have lf:=hr1.1;have li:=hr2.1;have ll:=hr3.1;have HX:=Lib.hid (Px.new (PS:=pCells p fo io lo fc ic lc) hd hCS);unfold pCells at HX;unfold mV;rw [←hCS];clear hd hCS hx hi ho he hpc hpc0 hr1 hr2 hr3 HX0;go_enter Tryz.func108,Tryz.ntmps108;go_upto_region 2 with fail
 generalize (w.alloc (.cells CS 29)).alloc (.cells #[.string p.name,.int .i64 p.params,.slice fo p.frame.length fc,.slice io p.init.length ic,.slice lo p.locs.length lc,.int .i64 p.start,.int .i64 p.final,.int .i64 p.active,.int .i64 p.prio,.int .i64 p.provided] 73)=W1 at HX ⊢;clear e0 e1 e2 e3 e4 e5 e6 e7 e8 e9 c4 hg;have f1:W1.cell? ⟨w.heap.size+1,1,none⟩=some (.int .i64 p.params):=HX.out.pb.cell rfl;have f2:W1.cell? ⟨w.heap.size+1,2,none⟩=some (.slice fo p.frame.length fc):=HX.out.pb.cell rfl;have f3:W1.cell? ⟨w.heap.size+1,3,none⟩=some (.slice io p.init.length ic):=HX.out.pb.cell rfl;have f4:W1.cell? ⟨w.heap.size+1,4,none⟩=some (.slice lo p.locs.length lc):=HX.out.pb.cell rfl;have HA:Hid (dtableB m (p,i)= (dtabHead p && (p.frame.zip p.init).all fitZ && dtabTail m p && (!(decide ((i:Int)=m.claim)) || dtabClaim p) && p.locs.zipIdx.all (dtabLoc p (decide ((i:Int)=m.claim))) && decide (manyP p≤1024))):=Lib.hid rfl
 go_cut [55] from 18 to 55 (fun v wx=>v= .bool (!dtabHead p)∧W1=wx)
 case first=>
  have HN:Hid (∀b:Bool,((128 < p.frame.length∨p.init.length≠p.frame.length∨p.params < 0∨ (p.frame.length:Int) < p.params∨p.locs.length < 1∨256 < p.locs.length)↔b=true)→Value.bool b= .bool (!dtabHead p)):=Lib.hid (by
   intro b hb;congr 1;unfold dtabHead;rw [Bool.not_not,Bool.eq_iff_iff,←hb];simp only [decide_eq_true_eq])
  obtain ⟨q,hq⟩:∃q,((p.init.length:Int) != (p.frame.length:Int))=q:=⟨_,rfl⟩;have HQ:Hid (p.init.length≠p.frame.length↔q=true):=Lib.hid (by rw [←hq,bne_iff_ne];omega);cases q
  all_goals (
   go_wp2_with fail
   all_goals (
    go_meet;case rel=>exact ⟨HN.out _ (by
     have hq9:=HQ.out;simp only [Bool.false_eq_true,iff_false,iff_true] at hq9;constructor
     · intro h0
       first
        | rfl
        | (exfalso;omega)
        | (simp only [decide_eq_true_eq];omega)
        | (simp;omega)
        | (trace_state;fail)
     · intro h0
       first
        | omega
        | (exfalso;cases h0;done)
        | (simp only [decide_eq_true_eq] at h0;omega)
        | (simp at h0;omega)),rfl⟩))
 case rest=>
  obtain ⟨rfl,rfl⟩:=hcut;clear f1 f2 f3 f4;cases hth:dtabHead p
  · have HZ:Hid (dtableB m (p,i)=false):=Lib.hid (by rw [HA.out,hth];rfl);go_wp2_with fail;go_ret;exact ⟨retB HZ.out.symm,HX.out.pb.bel⟩
  have HTH:=Lib.hid hth;clear hth
  try simp only [Bool.not_true]
  have hlen:p.frame.length≤128∧p.init.length=p.frame.length∧1≤p.locs.length∧p.locs.length≤256:=by
   have h1:=HTH.out;unfold dtabHead at h1;simp only [Bool.not_eq_true',decide_eq_false_iff_not] at h1;omega
  have HLEN:=Lib.hid hlen;have hl256:=hlen.2.2.2;have HTY:=Lib.hid (fun (W:World) (hb:Below w.heap.size w W)=>typedH p.frame p.init fo io fc ic W hb.size (HR1.out.mono fun _ _ _ hg=>tyAt.below (hb) hg) (HR2.out.mono fun _ _ _ hg=>intAt.below (hb) hg) hlen.2.1);have f2:W1.cell? ⟨w.heap.size+1,2,none⟩=some (.slice fo p.frame.length fc):=HX.out.pb.cell rfl;have f3:W1.cell? ⟨w.heap.size+1,3,none⟩=some (.slice io p.init.length ic):=HX.out.pb.cell rfl;clear hlen;go_wp2_with fail;refine (HTY.out W1 HX.out.pb.bel).mono ?_;rintro e W2 ⟨rfl,hb2⟩;have HX2:=Lib.hid (HX.out.below hb2);clear hb2 f2 f3 HTY HX;obtain ⟨ty,hty⟩:∃t,typedF p.frame p.init=t:=⟨_,rfl⟩;have HTYV:Hid ((p.frame.zip p.init).all fitZ=decide (ty < 0)):=Lib.hid (by
   by_cases h:ty < 0
   · rw [decide_eq_true h];exact typed_neg (by rw [hty];exact h)
   · rw [decide_eq_false h];exact (typed_pos (by rw [hty];omega)).1)
  rw [hty];clear hty;have f4:W2.cell? ⟨w.heap.size+1,4,none⟩=some (.slice lo p.locs.length lc):=HX2.out.pb.cell rfl;have f5:W2.cell? ⟨w.heap.size+1,5,none⟩=some (.int .i64 p.start):=HX2.out.pb.cell rfl;have f6:W2.cell? ⟨w.heap.size+1,6,none⟩=some (.int .i64 p.final):=HX2.out.pb.cell rfl;have f7:W2.cell? ⟨w.heap.size+1,7,none⟩=some (.int .i64 p.active):=HX2.out.pb.cell rfl;have f8:W2.cell? ⟨w.heap.size+1,8,none⟩=some (.int .i64 p.prio):=HX2.out.pb.cell rfl;have f9:W2.cell? ⟨w.heap.size+1,9,none⟩=some (.int .i64 p.provided):=HX2.out.pb.cell rfl;have c6:W2.cell? ⟨w.heap.size,6,none⟩=some (.slice h.eo m.exprs.length h.ec):=HX2.out.mx.c6;go_upto_region 5 with fail
  go_cut [121] from 61 to 121 (fun v wx=>v= .bool (!(decide (ty < 0) && dtabTail m p))∧W2=wx)
  case first=>
   have HN:Hid (∀b:Bool,(¬ (ty < 0∧0≤p.start∧p.start < p.locs.length∧0≤p.final∧p.final < p.locs.length∧0≤p.active∧p.active≤16∧1≤p.prio∧p.prio≤255∧ -1≤p.provided∧p.provided < m.exprs.length)↔b=true)→Value.bool b= .bool (!(decide (ty < 0) && dtabTail m p))):=Lib.hid (by
    intro b hb;congr 1;unfold dtabTail;rw [Bool.eq_iff_iff,←hb];simp only [Bool.not_eq_true',Bool.and_eq_false_iff,decide_eq_false_iff_not];omega)
   go_wp2_with fail
   all_goals (
    go_meet;case rel=>exact ⟨HN.out _ (by
     constructor
     · intro h0
       first
        | rfl
        | (exfalso;omega)
        | (simp only [decide_eq_true_eq];omega)
        | (simp;omega)
        | (trace_state;fail)
     · intro h0
       first
        | omega
        | (exfalso;cases h0;done)
        | (simp only [decide_eq_true_eq] at h0;omega)
        | (simp at h0;omega)),rfl⟩)
  case rest=>
   obtain ⟨rfl,hwx⟩:=hcut;subst hwx;clear f4 f5 f6 f7 f8 f9 c6;have HA2:Hid (dtableB m (p,i)= ((decide (ty < 0) && dtabTail m p) && (!(decide ((i:Int)=m.claim)) || dtabClaim p) && p.locs.zipIdx.all (dtabLoc p (decide ((i:Int)=m.claim))) && decide (manyP p≤1024))):=Lib.hid (by rw [HA.out,HTH.out,HTYV.out];rfl);cases htt: (decide (ty < 0) && dtabTail m p)
   · have HZ:Hid (dtableB m (p,i)=false):=Lib.hid (by rw [HA2.out,htt];rfl);go_wp2_with fail;go_ret;exact ⟨retB HZ.out.symm,HX2.out.pb.bel⟩
   have HA3:Hid (dtableB m (p,i)= ((!(decide ((i:Int)=m.claim)) || dtabClaim p) && p.locs.zipIdx.all (dtabLoc p (decide ((i:Int)=m.claim))) && decide (manyP p≤1024))):=Lib.hid (by rw [HA2.out,htt];rfl);clear htt HA HA2 HTYV HTH
   try simp only [Bool.not_true]
   have f2:W2.cell? ⟨w.heap.size+1,2,none⟩=some (.slice fo p.frame.length fc):=HX2.out.pb.cell rfl;have f7:W2.cell? ⟨w.heap.size+1,7,none⟩=some (.int .i64 p.active):=HX2.out.pb.cell rfl;have f9:W2.cell? ⟨w.heap.size+1,9,none⟩=some (.int .i64 p.provided):=HX2.out.pb.cell rfl;have c5:W2.cell? ⟨w.heap.size,5,none⟩=some (.int .i64 m.claim):=HX2.out.mx.c5;go_upto_region 7 with fail
   go_cut [141] from 122 to 141 (fun v wx=>v= .bool (!(!(decide ((i:Int)=m.claim)) || dtabClaim p))∧W2=wx)
   case first=>
    have HN:Hid (∀b:Bool,((((i:Int)=m.claim)∧ (0 < p.frame.length∨0 < p.active∨0≤p.provided))↔b=true)→Value.bool b= .bool (!(!(decide ((i:Int)=m.claim)) || dtabClaim p))):=Lib.hid (by
     intro b hb;congr 1;unfold dtabClaim;rw [Bool.eq_iff_iff,←hb];simp only [Bool.not_eq_true',Bool.or_eq_false_iff,Bool.not_eq_false',decide_eq_false_iff_not,decide_eq_true_eq];omega)
    by_cases hq: (i:Int)=m.claim
    · have b1: ((i:Int) == m.claim)=true:=by rw [beq_iff_eq];exact hq
      have HN2:Hid (∀b:Bool,((0 < p.frame.length∨0 < p.active∨0≤p.provided)↔b=true)→Value.bool b= .bool (!(!(decide ((i:Int)=m.claim)) || dtabClaim p))):=Lib.hid fun b hb=>HN.out b (by rw [←hb];simp only [hq,true_and])
      clear hq HN;by_cases n1:0 < p.frame.length
      · go_wp2_with fail;go_meet;case rel=>exact ⟨HN2.out _ ⟨fun _=>rfl,fun _=> .inl n1⟩,rfl⟩
      by_cases n2:0 < p.active
      · go_wp2_with fail;go_meet;case rel=>exact ⟨HN2.out _ ⟨fun _=>rfl,fun _=> .inr (.inl n2)⟩,rfl⟩
      by_cases n3:0≤p.provided
      · go_wp2_with fail;go_meet;case rel=>exact ⟨HN2.out _ ⟨fun _=>by first | rfl | exact decide_eq_true n3,fun _=> .inr (.inr n3)⟩,rfl⟩
      · have d3:decide (0≤p.provided)=false:=decide_eq_false n3;go_wp2_with fail;go_meet;case rel=>exact ⟨HN2.out _ ⟨fun h0=>by exfalso;omega,fun h0=>by exfalso;first | (cases h0;done) | (rw [d3] at h0;cases h0)⟩,rfl⟩
    · have b1: ((i:Int) == m.claim)=false:=by rw [beq_eq_false_iff_ne];exact hq
      have HN2:=Lib.hid (HN.out false ⟨fun h0=>absurd h0.1 hq,fun h0=>by cases h0⟩);clear hq HN;go_wp2_with fail;go_meet;case rel=>exact ⟨HN2.out,rfl⟩
   case rest=>
    obtain ⟨rfl,hwx⟩:=hcut;subst hwx;clear f2 f7 f9 c5;cases hcc: (!(decide ((i:Int)=m.claim)) || dtabClaim p)
    · have HZ:Hid (dtableB m (p,i)=false):=Lib.hid (by rw [HA3.out,hcc];rfl);go_wp2_with fail;go_ret;exact ⟨retB HZ.out.symm,HX2.out.pb.bel⟩
    have HA4:Hid (dtableB m (p,i)= (p.locs.zipIdx.all (dtabLoc p (decide ((i:Int)=m.claim))) && decide (manyP p≤1024))):=Lib.hid (by rw [HA3.out,hcc];rfl);clear hcc HA3
    try simp only [Bool.not_true]
    obtain ⟨cl,hcl⟩:∃cl,decide ((i:Int)=m.claim)=cl:=⟨_,rfl⟩;rw [hcl] at HA4;have HCL:=Lib.hid hcl;clear hcl;go_wp2_with fail
    go_loopw [7,8] (fun mv iv wr=>∃ (k M:Nat),mv= .int .i64 M∧iv= .int .i64 k∧k≤p.locs.length∧M≤k*1407374883553280∧Hid (M= ((p.locs.take k).map manyL).sum)∧Hid (∀j (hj:j < p.locs.zipIdx.length),j < k→dtabLoc p cl p.locs.zipIdx[j]=true)∧Hid (Px w CS #[.string p.name,.int .i64 p.params,.slice fo p.frame.length fc,.slice io p.init.length ic,.slice lo p.locs.length lc,.int .i64 p.start,.int .i64 p.final,.int .i64 p.active,.int .i64 p.prio,.int .i64 p.provided] h m wr)) (fun _ iv _=>p.locs.length - (intOf iv).toNat)
    case atStart=>exact ⟨0,0,rfl,rfl,by omega,by omega,Lib.hid rfl,Lib.hid fun j _ h=>by omega,HX2⟩
    case round=>
     clear HX2;obtain ⟨k,M,rfl,rfl,hk,hM,HM,HJ,HX⟩:=hrel;have hk0: (0:Int)≤k:=by omega
     have f4:wr.cell? ⟨w.heap.size+1,4,none⟩=some (.slice lo p.locs.length lc):=HX.out.pb.cell rfl;by_cases hlt:k < p.locs.length
     · have hlti: (k:Int) < p.locs.length:=by omega
       obtain ⟨gl,offl,hlo,hgl,hat0⟩:=HR3.out.cell hlt;obtain ⟨l,hl⟩:∃l,p.locs[k]=l:=⟨_,rfl⟩;rw [hl] at hat0;have hat1:=hat0.below HX.out.pb.bel hgl;obtain ⟨oo,oc,a0',hrO⟩:=hat0.out;obtain ⟨eo,ec,a1',hrE⟩:=hat0.esc;have a0:=(HX.out.pb.bel.cell (p:=⟨gl,offl+k*7,none⟩) hgl).trans a0';have a1:=(HX.out.pb.bel.cell (p:=⟨gl,offl+k*7+1,none⟩) hgl).trans a1';have HMLE:l.esc.length≤8→manyL l≤1407374883553280:=fun h8=>many_le hrO.1 h8 fun T hT=>by
        obtain ⟨j,hj,rfl⟩:=List.mem_iff_getElem.1 hT;obtain ⟨g9,o9,-,-,o8,c8,-,h9⟩:=hrE.cell hj;exact h9.1
       have HMLH:=Lib.hid HMLE;have HWY:=Lib.hid (fun (h8:l.esc.length≤8) (W:World) (hb:Below w.heap.size w W)=>waysRowH (B:=w.heap.size) l oo eo oc ec W hb.size (hrO.mono fun _ _ _ hg=>transAt.below hb hg) (hrE.mono fun _ _ _ hg=>escAt.below hb hg) h8);have a2:=hat1.c2;have a3:=hat1.c3;have a4:=hat1.c4;have a5:=hat1.c5;have a6:=hat1.c6;have lO:=hrO.1;have lE:=hrE.1;have hzl:k < p.locs.zipIdx.length:=by rw [List.length_zipIdx];exact hlt
       have hzk:p.locs.zipIdx[k]= (l,k):=by rw [List.getElem_zipIdx,hl];simp
       have HBAD:Hid (dtabLoc p cl (l,k)=false→dtableB m (p,i)=false):=Lib.hid fun h=>by rw [HA4.out,all_bad hzl (by rw [hzk];exact h)];rfl
       have HGO:Hid (dtabLoc p cl (l,k)=true→∀j (hj:j < p.locs.zipIdx.length),j < k+1→dtabLoc p cl p.locs.zipIdx[j]=true):=Lib.hid fun h j hj hjk=>by
        by_cases e:j=k
        · subst e;rw [hzk];exact h
        · exact HJ.out j hj (by omega)
       have HTK:Hid (((p.locs.take (k+1)).map manyL).sum=M+manyL l):=Lib.hid (by
        rw [List.take_succ_eq_append_getElem hlt,List.map_append,List.sum_append,←HM.out,hl];simp)
       have HX3:=Lib.hid (HX.out.below (ball (.cells #[.slice oo l.out.length oc,.slice eo l.esc.length ec,.bool l.atomic,.bool l.dstep,.bool l.fin,.bool l.accept,.bool l.progress] 70)));have HL3:Hid (Bq wr wr.heap.size #[.slice oo l.out.length oc,.slice eo l.esc.length ec,.bool l.atomic,.bool l.dstep,.bool l.fin,.bool l.accept,.bool l.progress] 70 (wr.alloc (.cells #[.slice oo l.out.length oc,.slice eo l.esc.length ec,.bool l.atomic,.bool l.dstep,.bool l.fin,.bool l.accept,.bool l.progress] 70))):=Lib.hid (Bq.new (Below.refl _ _) _ _);rw [hlo] at f4;clear hat0 hat1 hrO hrE hgl hl hzl hzk HJ hlo a0' a1' HMLE;go_upto_region 14 with fail
       generalize wr.alloc (.cells #[.slice oo l.out.length oc,.slice eo l.esc.length ec,.bool l.atomic,.bool l.dstep,.bool l.fin,.bool l.accept,.bool l.progress] 70)=W3 at HX3 HL3 ⊢;clear a0 a1 a2 a3 a4 a5 a6 f4;have q0:W3.cell? ⟨wr.heap.size,0,none⟩=some (.slice oo l.out.length oc):=HL3.out.cell rfl;have q1:W3.cell? ⟨wr.heap.size,1,none⟩=some (.slice eo l.esc.length ec):=HL3.out.cell rfl;have q2:W3.cell? ⟨wr.heap.size,2,none⟩=some (.bool l.atomic):=HL3.out.cell rfl;have q3:W3.cell? ⟨wr.heap.size,3,none⟩=some (.bool l.dstep):=HL3.out.cell rfl;have f6:W3.cell? ⟨w.heap.size+1,6,none⟩=some (.int .i64 p.final):=HX3.out.pb.cell rfl;have c5:W3.cell? ⟨w.heap.size,5,none⟩=some (.int .i64 m.claim):=HX3.out.mx.c5;refine reg14C i k p.final m.claim w.heap.size (w.heap.size+1) wr.heap.size l.out.length l.esc.length oo eo oc ec l.dstep l.atomic W3 q0 q1 q2 q3 f6 c5 _ _ _ _ _ _ _ _ _ _ _ _ _ _ _ _ _ _ _ _ _ _ _ _ _ _ _ _ _ _ _ _ _ _ _ _ _ _ _ _ _ _ _ _ _ _ _ _ _ _ _ _ _ _ _ _ _ _ _ _ _ _ _ _ _ _ _ _ _ _ _ _ _ _ _ _ _ _ _ _ _ _ _ _ _ _ _ _ _ _ _ _ _ _ _ _ _ _ _ _ _ _ _ _ _ _ _ _ _ _ _ _ _ _ _ _ _ _ _ _ _ _ _ _ _ _ _ _ _ _ _ _ _ _ _ _ _ _ _ _ _ _ _ _ _ _ _ _ _ _ _ _ _ _ _ _ _ _ _ _ _ _ _ _ _ _ _ _ _ _ _ _ _ _ _ _ _ _ _ _ _ _ _ _ _ _ _ _ _ _ _ _ _ _ _ _ _ _ _ _ _ _ _ _ _ _ _ _ _ _ _ _ _ _ _ _ _ _ _ _ _ _ _ _ _ _ _ _ _ _ _ _ _ _ _ _ _ _ _ _ _ _ _ _ _ _ _ _ _ _ _ _ _ _ _ _ _ _ _ _ (Lib.hid fun b u154 u155 u156 u157 u158 u159 u160 u161 u162 u163 u164 u165 u166 u167 u168 u169 u170 u171 u172 u173 u174 u175 u176 u177 u178 u179 u180 u181 u182 u183 u184 u185 u186 u187 u188 u189 u190 u191 u192 u193 u194 u195 u196 u197 u198 u199 u200 u201 u202 hb=> ?_);dsimp only;have hb2:b= !(locHeadB p k l && (!cl || looksLocB l)):=by rw [hb.out,←HCL.out];exact tabHead_is
       clear q0 q1 q2 q3 f6 c5 hb;cases hhd: (locHeadB p k l && (!cl || looksLocB l))
       · rw [hhd] at hb2;subst hb2;have HZ:=Lib.hid (HBAD.out (by rw [dloc_is,hhd];rfl));go_wp2_with fail;go_ret;exact ⟨retB HZ.out.symm,HX3.out.pb.bel⟩
       · rw [hhd] at hb2;subst hb2;have HDL:Hid (dtabLoc p cl (l,k)= (l.out.all (toB p.locs.length) && l.esc.all (escB p.locs.length))):=Lib.hid (by rw [dloc_is,hhd];rfl);have hesc:l.esc.length≤8:=by
          rw [Bool.and_eq_true] at hhd;have h1:=hhd.1;unfold locHeadB at h1;simp only [Bool.not_eq_true',decide_eq_false_iff_not] at h1;omega
         have HMLE2:=Lib.hid (HMLH.out hesc);clear hhd;go_wp2_with (refine wpList_load_row rfl _ _ rfl _ rfl _ #[.slice oo l.out.length oc,.slice eo l.esc.length ec,.bool l.atomic,.bool l.dstep,.bool l.fin,.bool l.accept,.bool l.progress] _ _ HL3.out.box Tryz.underlying70 rfl (by kernel_rfl) ?_);refine (HWY.out hesc W3 HX3.out.pb.bel).mono ?_;rintro e W4 ⟨wo,wc,rfl,hrw,hb4⟩;have HX4:=Lib.hid (HX3.out.below hb4);have HRW:=Lib.hid hrw;obtain ⟨LL,hLL⟩:∃L,l.out :: l.esc=L:=⟨_,rfl⟩;rw [hLL] at HRW;have hL9:LL.length≤9:=by rw [←hLL];simp;omega
         have HLW:Hid ((∀q (hq:q < LL.length),wayOK p.locs.length q LL[q]=true)→dtabLoc p cl (l,k)=true):=Lib.hid fun h=>by rw [HDL.out];subst hLL;exact ways_ok h
         have HLB:Hid (∀q (hq:q < LL.length),wayOK p.locs.length q LL[q]=false→dtabLoc p cl (l,k)=false):=Lib.hid fun q hq h=>by rw [HDL.out];subst hLL;exact ways_bad hq h
         have HLM:Hid ((LL.map List.length).sum=manyL l):=Lib.hid (by rw [←hLL];rfl);rw [show (l.out :: l.esc).length=LL.length by rw [hLL]];clear hb4 hrw hLL HL3 HWY HDL HX3 hesc;have HB4:Hid (Below W4.heap.size W4 W4):=Lib.hid (Below.refl _ _);go_wp2_with fail
         go_loopw [7,11] (fun mv kv wq=>∃ (q M2:Nat),mv= .int .i64 M2∧kv= .int .i64 q∧q≤LL.length∧M2≤M+q*140737488355328∧Hid (M2=M+ ((LL.take q).map List.length).sum)∧Hid (∀j (hj:j < LL.length),j < q→wayOK p.locs.length j LL[j]=true)∧Hid (Below W4.heap.size W4 wq)) (fun _ kv _=>LL.length - (intOf kv).toNat)
         case atStart=>exact ⟨0,M,rfl,rfl,by omega,by omega,Lib.hid rfl,Lib.hid fun j _ h=>by omega,HB4⟩
         case round=>
          clear HB4;obtain ⟨q,M2,rfl,rfl,hq,hM2,HM2,HJ2,HBq⟩:=hrel;have hq0: (0:Int)≤q:=by omega
          by_cases hlq:q < LL.length
          · have hlqi: (q:Int) < LL.length:=by omega
            obtain ⟨gw,offw,hwo,hgw,tO,tC,t0,hrT⟩:=HRW.out.cell hlq;rw [Nat.mul_one] at t0;obtain ⟨T,hT⟩:∃T,LL[q]=T:=⟨_,rfl⟩;rw [hT] at t0 hrT;have t1:=(HBq.out.cell (p:=⟨gw,offw+q,none⟩) hgw).trans t0;have HT0:Hid (∀wz,Below W4.heap.size W4 wz→wz.cell? ⟨gw,offw+q,none⟩=some (.slice tO T.length tC)):=Lib.hid fun wz hb=>(hb.cell (p:=⟨gw,offw+q,none⟩) hgw).trans t0
            have lT:=hrT.1;have HRT:=Lib.hid hrT;have HWB:Hid (wayOK p.locs.length q T=false→dtableB m (p,i)=false):=Lib.hid fun h=>HBAD.out (HLB.out q hlq (by rw [hT];exact h))
            have HWG:Hid (wayOK p.locs.length q T=true→∀j (hj:j < LL.length),j < q+1→wayOK p.locs.length j LL[j]=true):=Lib.hid fun h j hj hjk=>by
             by_cases e:j=q
             · subst e;rw [hT];exact h
             · exact HJ2.out j hj (by omega)
            have HSM:Hid (M+ ((LL.take (q+1)).map List.length).sum=M2+T.length):=Lib.hid (by
             rw [List.take_succ_eq_append_getElem hlq,List.map_append,List.sum_append,HM2.out,hT];simp;omega)
            have hwo':=hwo;clear t0 hrT hT HJ2;have HWO:=Lib.hid hwo;have HGW:=Lib.hid hgw;subst hwo;clear hwo' hgw;by_cases hbad:0 < q∧T.length=0
            · have hqp:=hbad.1;have hz0: ((T.length:Int) == 0)=true:=by rw [beq_iff_eq];omega
              have HZ:=Lib.hid (HWB.out (by unfold wayOK;rw [decide_eq_false (by omega),decide_eq_false (by omega)];rfl));clear hbad;go_wp2_with fail;go_ret;exact ⟨retB HZ.out.symm,(HX4.out.below HBq.out).pb.bel⟩
            have HNB:=Lib.hid hbad;have hz0:0 < q→ ((T.length:Int) == 0)=false:=fun h=>by rw [beq_eq_false_iff_ne];intro e;exact hbad ⟨h,by omega⟩
            clear hbad;have f4:wr.cell? ⟨w.heap.size+1,4,none⟩=some (.slice lo p.locs.length lc):=(HX4.out.below HBq.out).pb.cell rfl;have HF4:=Lib.hid f4;clear f4;go_upto_region 20 with fail
            go_cut [221] from 212 to 221 (fun v wx=>v= .bool false∧wr=wx)
            case first=>
             by_cases hqp:0 < q
             · have hz1:=hz0 hqp;clear hz0;go_wp2_with fail;go_meet;case rel=>exact ⟨rfl,rfl⟩
             · clear hz0;go_wp2_with fail;go_meet;case rel=>exact ⟨rfl,rfl⟩
            case rest=>
             obtain ⟨rfl,hwx⟩:=hcut;subst hwx;have HB0:Hid (Below W4.heap.size W4 wr):=Lib.hid HBq.out;clear hz0;go_wp2_with fail
             go_loopw [12] (fun jv wz=>∃r:Nat,jv= .int .i64 r∧r≤T.length∧Hid (∀j (hj:j < T.length),j < r→toB p.locs.length T[j]=true)∧Hid (Below W4.heap.size W4 wz)) (fun jv _=>T.length - (intOf jv).toNat)
             case atStart=>exact ⟨0,rfl,by omega,Lib.hid fun j _ h=>by omega,HB0⟩
             case round=>
              clear HB0 t1;obtain ⟨r,rfl,hr,HJ3,HBz⟩:=hrel;have hr0: (0:Int)≤r:=by omega
              have hr00:0≤r:=by omega
              have t1:=HT0.out _ HBz.out;by_cases hlr:r < T.length
              · have hlri: (r:Int) < T.length:=by omega
                obtain ⟨gt,offt,htO,hgt,htr⟩:=HRT.out.cell hlr;obtain ⟨tz,hto⟩:∃tz,T[r].to=tz:=⟨_,rfl⟩;have hgt4:gt < W4.heap.size:=by have:=HX4.out.pb.bel.size;omega
                have e7:=(HBz.out.cell (p:=⟨gt,offt+r*9+7,none⟩) hgt4).trans htr.c7;rw [hto] at e7;have HTB:Hid (toB p.locs.length T[r]=decide (0≤tz∧tz < p.locs.length)):=Lib.hid (by unfold toB;rw [hto]);have f4:wr.cell? ⟨w.heap.size+1,4,none⟩=some (.slice lo p.locs.length lc):=(HX4.out.below HBz.out).pb.cell rfl;rw [htO] at t1;clear htO hgt htr hgt4 hto;by_cases k1:tz < 0
                · have d1:decide (tz < 0)=true:=decide_eq_true k1;have HZ:=Lib.hid (HWB.out (by unfold wayOK;rw [all_bad hlr (by rw [HTB.out];exact decide_eq_false (by omega)),Bool.and_false]));clear k1;go_wp2_with fail;go_quiet (fail);go_wp2_with fail;go_ret;exact ⟨retB HZ.out.symm,((HX4.out.below HBz.out).drewN _).pb.bel⟩
                have d1:decide (tz < 0)=false:=decide_eq_false k1;by_cases k2: (p.locs.length:Int)≤tz
                · have d2:decide ((p.locs.length:Int)≤tz)=true:=decide_eq_true k2;have HZ:=Lib.hid (HWB.out (by unfold wayOK;rw [all_bad hlr (by rw [HTB.out];exact decide_eq_false (by omega)),Bool.and_false]));clear k1 k2;go_wp2_with fail;go_quiet (fail);go_wp2_with fail;go_ret;exact ⟨retB HZ.out.symm,((HX4.out.below HBz.out).drewN _).pb.bel⟩
                · have d2:decide ((p.locs.length:Int)≤tz)=false:=decide_eq_false k2;have HJ4:Hid (∀j (hj:j < T.length),j < r+1→toB p.locs.length T[j]=true):=Lib.hid fun j hj hjr=>by
                   by_cases e:j=r
                   · subst e;rw [HTB.out];exact decide_eq_true (by omega)
                   · exact HJ3.out j hj (by omega)
                  clear k1 k2;go_wp2_with fail;go_quiet (fail);go_wp2_with fail;go_roundw;case rel=>exact ⟨r+1,by go_num,by omega,HJ4,Lib.hid (bdrew HBz.out _)⟩
                  case measure=>simp [intOf];omega
              · have hlri:¬ (r:Int) < T.length:=by omega
                have HZ:=Lib.hid (HWG.out (by
                 unfold wayOK;rw [all_of fun j hj=>HJ3.out j hj (by omega),Bool.and_true];by_cases h0:q=0
                 · rw [decide_eq_true h0];rfl
                 · rw [decide_eq_true (show T.length≠0 from fun e=>HNB.out ⟨by omega,e⟩)];simp))
                go_wp2_with fail;go_roundw;case rel=>exact ⟨q+1,M2+T.length,by go_num,by go_num,by omega,by omega,Lib.hid HSM.out.symm,HZ,HBz⟩
                case measure=>simp [intOf];omega
          · have hlqi:¬ (q:Int) < LL.length:=by omega
            have HLK:=Lib.hid (HGO.out (HLW.out fun j hj=>HJ2.out j hj (by omega)));have HME:Hid (M2= ((p.locs.take (k+1)).map manyL).sum):=Lib.hid (by rw [HTK.out,HM2.out,List.take_of_length_le (by omega),HLM.out]);have hM3:M2≤ (k+1)*1407374883553280:=by
             have h1:=HM2.out;rw [List.take_of_length_le (by omega),HLM.out] at h1;have h2:=HMLE2.out;omega
            go_wp2_with fail;go_roundw;case rel=>exact ⟨k+1,M2,by go_num,by go_num,by omega,hM3,HME,HLK,Lib.hid (HX4.out.below HBq.out)⟩
            case measure=>simp [intOf];omega
     · have hlti:¬ (k:Int) < p.locs.length:=by omega
       have HZ:Hid (dtableB m (p,i)=decide (M≤1024)):=Lib.hid (by
        rw [HA4.out,all_of fun j hj=>HJ.out j hj (by rw [List.length_zipIdx] at hj;omega),HM.out,List.take_of_length_le (by omega)];rfl)
       go_wp2_with fail;go_ret;refine ⟨retB (Eq.trans ?_ HZ.out.symm),HX.out.pb.bel⟩;rw [Bool.eq_iff_iff];simp only [decide_eq_true_eq];omega
end Go.Proofs.YthfldokfnjpkmaaGreatDoor
