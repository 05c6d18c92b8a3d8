/- The document's way of a proctype. -/
import Derived.Test.YtnoibjahliafpaaGreatDoorM29
import Derived.Test.YtnoibjahliafpaaGreatDoorM30
set_option linter.unusedVariables false
set_option linter.unusedSimpArgs false
namespace Go.Proofs.YtnoibjahliafpaaGreatDoor
open Go.ChangeShapes Go.WideShapes Go.ChangeAt Go.RowKit
theorem Mx.statement {w W:World} {p:Nat} {CS:Array Value} {h:MH} {m:ModelD} (k:Mx w p CS h m W) (s:StmtD) (ao mo:Option Addr) (ac mc:Nat) (hra:Row w.heap.size ao 1 (intAt w) s.args) (hrm:Row w.heap.size mo 1 (intAt w) s.mat):
 Calls Tryz.prog 107 #[.agg CS,.agg #[.int .i64 s.kind,.int .i64 s.a,.int .i64 s.b,.int .i64 s.n,.slice ao s.args.length ac,.slice mo s.mat.length mc,.string s.text]] W fun e w'=>e= .returned (.bool (stmtB m s))∧Below W.heap.size W w':=by
 rw [k.eq,←stmt_is];exact statementH s ao mo ac mc W k.here ((hra.mono fun _ _ _ hg=>intAt.below k.bx.bel hg).up k.bx.bel.size) ((hrm.mono fun _ _ _ hg=>intAt.below k.bx.bel hg).up k.bx.bel.size)
theorem Mx.uses {w W:World} {p:Nat} {CS:Array Value} {h:MH} {m:ModelD} (k:Mx w p CS h m W) (hx:EX m) (pr:Nat) (hpr:pr < m.procs.length) (n:Int) (hn:isExprB m n=true) (run:Bool):Calls Tryz.prog 86 #[.agg CS,.int .i64 pr,.int .i64 n,.bool run] W fun e w'=>e= .returned (.bool (dtopB m pr run n))∧Below W.heap.size W w':=by
 have h1:=isExpr_le hn;obtain ⟨q,rfl⟩:∃q:Nat,n=q:=⟨n.toNat,by omega⟩;rw [k.eq];exact usesH hx pr hpr q (by omega) run W k.here
def clT (ok qc q1 q3 q7 q8:Bool):Bool:= !ok || (qc && !q1 && !q3 && !q7 && !q8)
theorem cl_is (m:ModelD) (pr:Nat) (s:StmtD) (ok:Bool):clT ok ((pr:Int) == m.claim) (s.kind == 1) (s.kind == 3) (s.kind == 7) (s.kind == 8)= !(ok && (!(decide ((pr:Int)=m.claim)) || claimsB s.kind)):=by
 unfold clT claimsB;have e1: ((pr:Int) == m.claim)=decide ((pr:Int)=m.claim):=rfl;have e2: (s.kind == 1)=decide (s.kind=1):=rfl;have e3: (s.kind == 3)=decide (s.kind=3):=rfl;have e4: (s.kind == 7)=decide (s.kind=7):=rfl;have e5: (s.kind == 8)=decide (s.kind=8):=rfl;rw [e1,e2,e3,e4,e5];grind
set_option maxRecDepth 100000 in
set_option maxHeartbeats 8000000 in
theorem wayH {h:MH} {m:ModelD} (hx:EX m) (pr:Nat) (hpr:pr < m.procs.length) (s:StmtD) (ao mo:Option Addr) (ac mc:Nat) (w:World) (hd:MD w.heap.size w h m) (hra:Row w.heap.size ao 1 (intAt w) s.args) (hrm:Row w.heap.size mo 1 (intAt w) s.mat):
 Calls Tryz.prog 85 #[mV h m,.int .i64 pr,.agg (stCells s ao mo ac mc)] w fun e w'=>e= .returned (.bool (dwayB m pr s))∧Below w.heap.size w w':=by
 obtain ⟨CS,hCS⟩:∃c,c=mCells h m:=⟨_,rfl⟩;have la:=hra.1;have HRA:=Lib.hid hra;have HRM:=Lib.hid hrm;have HX:=Lib.hid (Sx.new (SS:=stCells s ao mo ac mc) hd hCS);have HU:=Lib.hid (fun (W:World) (k:Mx w w.heap.size CS h m W) (n:Int) (hn:isExprB m n=true) (run:Bool)=>k.uses hx pr hpr n hn run);have HAB:=Lib.hid (fun (hs:stmtB m s=true)=>stmt_ab hs);have HV:Hid (dwayB m pr s= ((stmtB m s && (!(decide ((pr:Int)=m.claim)) || claimsB s.kind)) && (decide (s.a < 0) || dtopB m pr (s.kind == 1) s.a) && (decide (s.b < 0) || dtopB m pr (s.kind == 2) s.b) && s.args.all (okU m pr))):=Lib.hid rfl;unfold stCells at HX ⊢;unfold mV;rw [←hCS];clear hd hCS hra hrm hx hpr;go_enter Tryz.func85,Tryz.ntmps85;go_upto_region 1 with fail
 generalize (w.alloc (.cells CS 29)).alloc (.cells #[.int .i64 s.kind,.int .i64 s.a,.int .i64 s.b,.int .i64 s.n,.slice ao s.args.length ac,.slice mo s.mat.length mc,.string s.text] 150)=W1 at HX ⊢;go_wp2_with (first | refine wpList_load_row rfl _ _ rfl _ rfl _ CS _ _ HX.out.mx.bx.box Tryz.underlying29 rfl HX.out.mx.info ?_ | refine wpList_load_row rfl _ _ rfl _ rfl _ #[.int .i64 s.kind,.int .i64 s.a,.int .i64 s.b,.int .i64 s.n,.slice ao s.args.length ac,.slice mo s.mat.length mc,.string s.text] _ _ HX.out.sb.box Tryz.underlying150 rfl (by kernel_rfl) ?_);refine (HX.out.mx.statement s ao mo ac mc HRA.out HRM.out).mono ?_;rintro e W2 ⟨rfl,hb2⟩;have HX2:=Lib.hid (HX.out.below hb2);clear hb2 HX;obtain ⟨ok,hok⟩:∃q,stmtB m s=q:=⟨_,rfl⟩;rw [hok] at HV;rw [hok];have HOK:=Lib.hid hok;clear hok;obtain ⟨qc,hqc⟩:∃q,((pr:Int) == m.claim)=q:=⟨_,rfl⟩;obtain ⟨q1,hq1⟩:∃q,(s.kind == 1)=q:=⟨_,rfl⟩;obtain ⟨q3,hq3⟩:∃q,(s.kind == 3)=q:=⟨_,rfl⟩;obtain ⟨q7,hq7⟩:∃q,(s.kind == 7)=q:=⟨_,rfl⟩;obtain ⟨q8,hq8⟩:∃q,(s.kind == 8)=q:=⟨_,rfl⟩;have HCT:Hid (clT ok qc q1 q3 q7 q8= !(ok && (!(decide ((pr:Int)=m.claim)) || claimsB s.kind))):=Lib.hid (by rw [←cl_is,hqc,hq1,hq3,hq7,hq8]);have n1: (s.kind != 1)= !q1:=by rw [←hq1];rfl
 have n3: (s.kind != 3)= !q3:=by rw [←hq3];rfl
 have n7: (s.kind != 7)= !q7:=by rw [←hq7];rfl
 have n8: (s.kind != 8)= !q8:=by rw [←hq8];rfl
 clear hq1 hq3 hq7 hq8;have f0:W2.cell? ⟨w.heap.size+1,0,none⟩=some (.int .i64 s.kind):=HX2.out.sb.cell rfl;have c5:W2.cell? ⟨w.heap.size,5,none⟩=some (.int .i64 m.claim):=HX2.out.mx.c5;go_upto_region 2 with fail
 go_cut [39] from 12 to 39 (fun v wx=>v= .bool (clT ok qc q1 q3 q7 q8)∧W2=wx)
 case first=>
  cases ok
  · go_wp2_with fail;go_meet;case rel=>exact ⟨rfl,rfl⟩
  cases qc
  · go_wp2_with fail;go_meet;case rel=>exact ⟨rfl,rfl⟩
  cases q1;rotate_left
  · go_wp2_with fail;go_meet;case rel=>exact ⟨rfl,rfl⟩
  cases q3;rotate_left
  · go_wp2_with fail;go_meet;case rel=>exact ⟨rfl,rfl⟩
  cases q7;rotate_left
  · go_wp2_with fail;go_meet;case rel=>exact ⟨rfl,rfl⟩
  cases q8
  · go_wp2_with fail;go_meet;case rel=>exact ⟨rfl,rfl⟩
  · go_wp2_with fail;go_meet;case rel=>exact ⟨rfl,rfl⟩
 case rest=>
 obtain ⟨rfl,hwx⟩:=hcut;subst hwx;clear n1 n3 n7 n8 hqc f0 c5;rw [HCT.out];cases hhd: (ok && (!(decide ((pr:Int)=m.claim)) || claimsB s.kind))
 · have HZ:Hid (dwayB m pr s=false):=Lib.hid (by rw [HV.out,hhd];rfl);go_wp2_with fail;go_ret;exact ⟨retB HZ.out.symm,HX2.out.sb.bel⟩
 have HST:Hid (stmtB m s=true):=Lib.hid (by
  rw [Bool.and_eq_true] at hhd;rw [HOK.out];exact hhd.1)
 have HV2:Hid (dwayB m pr s= ((decide (s.a < 0) || dtopB m pr (s.kind == 1) s.a) && (decide (s.b < 0) || dtopB m pr (s.kind == 2) s.b) && s.args.all (okU m pr))):=Lib.hid (by rw [HV.out,hhd];rfl);clear hhd HV HCT HOK
 try simp only [Bool.not_true]
 have f0:W2.cell? ⟨w.heap.size+1,0,none⟩=some (.int .i64 s.kind):=HX2.out.sb.cell rfl;have f1:W2.cell? ⟨w.heap.size+1,1,none⟩=some (.int .i64 s.a):=HX2.out.sb.cell rfl;by_cases ka:s.a < 0
 · have ka2:¬0≤s.a:=by omega
   have HV3:Hid (dwayB m pr s= ((decide (s.b < 0) || dtopB m pr (s.kind == 2) s.b) && s.args.all (okU m pr))):=Lib.hid (by rw [HV2.out,decide_eq_true ka];rfl);clear ka;have g0:W2.cell? ⟨w.heap.size+1,0,none⟩=some (.int .i64 s.kind):=HX2.out.sb.cell rfl;have g2:W2.cell? ⟨w.heap.size+1,2,none⟩=some (.int .i64 s.b):=HX2.out.sb.cell rfl;by_cases kb:s.b < 0
   · have kb2:¬0≤s.b:=by omega
     have HV4:Hid (dwayB m pr s=s.args.all (okU m pr)):=Lib.hid (by rw [HV3.out,decide_eq_true kb];rfl);clear kb;have HBW:Hid (Sx w CS #[.int .i64 s.kind,.int .i64 s.a,.int .i64 s.b,.int .i64 s.n,.slice ao s.args.length ac,.slice mo s.mat.length mc,.string s.text] h m W2):=Lib.hid HX2.out;go_wp2_with fail
     go_loopw [8] (fun jv wr=>∃j:Nat,jv= .int .i64 j∧j≤s.args.length∧Hid (∀i (hi:i < s.args.length),i < j→okU m pr s.args[i]=true)∧Hid (Sx w CS #[.int .i64 s.kind,.int .i64 s.a,.int .i64 s.b,.int .i64 s.n,.slice ao s.args.length ac,.slice mo s.mat.length mc,.string s.text] h m wr)) (fun jv _=>s.args.length - (intOf jv).toNat)
     case atStart=>exact ⟨0,rfl,by omega,Lib.hid fun j _ h=>by omega,HBW⟩
     case round=>
      clear HBW;obtain ⟨j,rfl,hj,HJ,HX⟩:=hrel;have hj0: (0:Int)≤j:=by omega
      have hj00:0≤j:=by omega
      have f4:wr.cell? ⟨w.heap.size+1,4,none⟩=some (.slice ao s.args.length ac):=HX.out.sb.cell rfl;by_cases hlt:j < s.args.length
      · have hlti: (j:Int) < s.args.length:=by omega
        obtain ⟨ga,offa,hoa,hga,ea⟩:=HRA.out.cell hlt;obtain ⟨q,hq⟩:∃q,s.args[j]=q:=⟨_,rfl⟩;have hqe:isExprB m q=true:=by
         have h1:=List.all_eq_true.1 (HAB.out HST.out).2.2 _ (List.getElem_mem hlt);rw [hq] at h1;exact h1
        have hq0:=isExpr_le hqe;have ca:wr.cell? ⟨ga,offa+j,none⟩=some (.int .i64 q):=by
         have:=(HX.out.sb.bel.cell (p:=⟨ga,offa+j*1,none⟩) hga).trans ea;rw [Nat.mul_one,hq] at this;exact this
        have HBAD:Hid (okU m pr q=false→dwayB m pr s=false):=Lib.hid fun h=>by rw [HV4.out,all_bad hlt (by rw [hq];exact h)]
        have HGO:Hid (okU m pr q=true→∀i (hi:i < s.args.length),i < j+1→okU m pr s.args[i]=true):=Lib.hid fun h i hi hij=>by
         by_cases e:i=j
         · subst e;rw [hq];exact h
         · exact HJ.out i hi (by omega)
        have HQE:=Lib.hid hqe;have m0:=HX.out.mx.c0;have m1:=HX.out.mx.c1;have m2:=HX.out.mx.c2;have m3:=HX.out.mx.c3;have m4:=HX.out.mx.c4;have m5:=HX.out.mx.c5;have m6:=HX.out.mx.c6;rw [hoa] at f4;clear ea hq hga hoa HJ hq0 hqe;go_wp2_with fail;go_still_tail 7,(by kernel_rfl);change wpList _ _ _ _ _ wr.drew;have HXD:=Lib.hid (HX.out.below (Below.refl _ _).drew);generalize wr.drew=W9 at HXD ⊢;have HU2:=Lib.hid (HU.out W9 HXD.out.mx q HQE.out false);rw [HXD.out.mx.eq] at HU2;unfold mCells at HU2;clear m0 m1 m2 m3 m4 m5 m6 ca f4 HX;go_wp2_with fail;refine HU2.out.mono ?_;rintro e W10 ⟨rfl,hb10⟩;have HX10:=Lib.hid (HXD.out.below hb10);clear hb10 HU2 HXD;obtain ⟨t,ht⟩:∃t,okU m pr q=t:=⟨_,rfl⟩;rw [ht] at HBAD HGO;rw [show dtopB m pr false q=t from ht];clear ht;cases t
        · have HZ:=Lib.hid (HBAD.out rfl);go_wp2_with fail;go_ret;exact ⟨retB HZ.out.symm,HX10.out.sb.bel⟩
        · have HZ:=Lib.hid (HGO.out rfl);go_wp2_with fail;go_roundw;case rel=>exact ⟨j+1,by go_num,by omega,HZ,HX10⟩
          case measure=>simp [intOf];omega
      · have hlti:¬ (j:Int) < s.args.length:=by omega
        have HZ:Hid (dwayB m pr s=true):=Lib.hid (by rw [HV4.out];exact all_of fun i hi=>HJ.out i hi (by omega));go_wp2_with fail;go_ret;exact ⟨retB HZ.out.symm,HX.out.sb.bel⟩
   · have kb2:0≤s.b:=by omega
     have HU4:=Lib.hid (HU.out W2 HX2.out.mx s.b ((HAB.out HST.out).2.1 kb2) (s.kind == 2));have HV3b:Hid (dwayB m pr s= (dtopB m pr (s.kind == 2) s.b && s.args.all (okU m pr))):=Lib.hid (by rw [HV3.out,decide_eq_false kb];rfl);clear kb;go_wp2_with (refine wpList_load_row rfl _ _ rfl _ rfl _ CS _ _ HX2.out.mx.bx.box Tryz.underlying29 rfl HX2.out.mx.info ?_);refine HU4.out.mono ?_;rintro e W4 ⟨rfl,hb4⟩;have HX4:=Lib.hid (HX2.out.below hb4);clear hb4 HU4 g0 g2;obtain ⟨ub,hub⟩:∃u,dtopB m pr (s.kind == 2) s.b=u:=⟨_,rfl⟩;rw [hub] at HV3b;rw [hub];clear hub;cases ub
     · have HZ:Hid (dwayB m pr s=false):=Lib.hid (by rw [HV3b.out];rfl);go_wp2_with fail;go_ret;exact ⟨retB HZ.out.symm,HX4.out.sb.bel⟩
     · have HV4:Hid (dwayB m pr s=s.args.all (okU m pr)):=Lib.hid (by rw [HV3b.out];rfl);have HBW:Hid (Sx w CS #[.int .i64 s.kind,.int .i64 s.a,.int .i64 s.b,.int .i64 s.n,.slice ao s.args.length ac,.slice mo s.mat.length mc,.string s.text] h m W4):=Lib.hid HX4.out;go_wp2_with fail
       go_loopw [8] (fun jv wr=>∃j:Nat,jv= .int .i64 j∧j≤s.args.length∧Hid (∀i (hi:i < s.args.length),i < j→okU m pr s.args[i]=true)∧Hid (Sx w CS #[.int .i64 s.kind,.int .i64 s.a,.int .i64 s.b,.int .i64 s.n,.slice ao s.args.length ac,.slice mo s.mat.length mc,.string s.text] h m wr)) (fun jv _=>s.args.length - (intOf jv).toNat)
       case atStart=>exact ⟨0,rfl,by omega,Lib.hid fun j _ h=>by omega,HBW⟩
       case round=>
        clear HBW;obtain ⟨j,rfl,hj,HJ,HX⟩:=hrel;have hj0: (0:Int)≤j:=by omega
        have hj00:0≤j:=by omega
        have f4:wr.cell? ⟨w.heap.size+1,4,none⟩=some (.slice ao s.args.length ac):=HX.out.sb.cell rfl;by_cases hlt:j < s.args.length
        · have hlti: (j:Int) < s.args.length:=by omega
          obtain ⟨ga,offa,hoa,hga,ea⟩:=HRA.out.cell hlt;obtain ⟨q,hq⟩:∃q,s.args[j]=q:=⟨_,rfl⟩;have hqe:isExprB m q=true:=by
           have h1:=List.all_eq_true.1 (HAB.out HST.out).2.2 _ (List.getElem_mem hlt);rw [hq] at h1;exact h1
          have hq0:=isExpr_le hqe;have ca:wr.cell? ⟨ga,offa+j,none⟩=some (.int .i64 q):=by
           have:=(HX.out.sb.bel.cell (p:=⟨ga,offa+j*1,none⟩) hga).trans ea;rw [Nat.mul_one,hq] at this;exact this
          have HBAD:Hid (okU m pr q=false→dwayB m pr s=false):=Lib.hid fun h=>by rw [HV4.out,all_bad hlt (by rw [hq];exact h)]
          have HGO:Hid (okU m pr q=true→∀i (hi:i < s.args.length),i < j+1→okU m pr s.args[i]=true):=Lib.hid fun h i hi hij=>by
           by_cases e:i=j
           · subst e;rw [hq];exact h
           · exact HJ.out i hi (by omega)
          have HQE:=Lib.hid hqe;have m0:=HX.out.mx.c0;have m1:=HX.out.mx.c1;have m2:=HX.out.mx.c2;have m3:=HX.out.mx.c3;have m4:=HX.out.mx.c4;have m5:=HX.out.mx.c5;have m6:=HX.out.mx.c6;rw [hoa] at f4;clear ea hq hga hoa HJ hq0 hqe;go_wp2_with fail;go_still_tail 7,(by kernel_rfl);change wpList _ _ _ _ _ wr.drew;have HXD:=Lib.hid (HX.out.below (Below.refl _ _).drew);generalize wr.drew=W9 at HXD ⊢;have HU2:=Lib.hid (HU.out W9 HXD.out.mx q HQE.out false);rw [HXD.out.mx.eq] at HU2;unfold mCells at HU2;clear m0 m1 m2 m3 m4 m5 m6 ca f4 HX;go_wp2_with fail;refine HU2.out.mono ?_;rintro e W10 ⟨rfl,hb10⟩;have HX10:=Lib.hid (HXD.out.below hb10);clear hb10 HU2 HXD;obtain ⟨t,ht⟩:∃t,okU m pr q=t:=⟨_,rfl⟩;rw [ht] at HBAD HGO;rw [show dtopB m pr false q=t from ht];clear ht;cases t
          · have HZ:=Lib.hid (HBAD.out rfl);go_wp2_with fail;go_ret;exact ⟨retB HZ.out.symm,HX10.out.sb.bel⟩
          · have HZ:=Lib.hid (HGO.out rfl);go_wp2_with fail;go_roundw;case rel=>exact ⟨j+1,by go_num,by omega,HZ,HX10⟩
            case measure=>simp [intOf];omega
        · have hlti:¬ (j:Int) < s.args.length:=by omega
          have HZ:Hid (dwayB m pr s=true):=Lib.hid (by rw [HV4.out];exact all_of fun i hi=>HJ.out i hi (by omega));go_wp2_with fail;go_ret;exact ⟨retB HZ.out.symm,HX.out.sb.bel⟩
 · have ka2:0≤s.a:=by omega
   have HU3:=Lib.hid (HU.out W2 HX2.out.mx s.a ((HAB.out HST.out).1 ka2) (s.kind == 1));have HV3a:Hid (dwayB m pr s= (dtopB m pr (s.kind == 1) s.a && (decide (s.b < 0) || dtopB m pr (s.kind == 2) s.b) && s.args.all (okU m pr))):=Lib.hid (by rw [HV2.out,decide_eq_false ka];rfl);clear ka;go_wp2_with (refine wpList_load_row rfl _ _ rfl _ rfl _ CS _ _ HX2.out.mx.bx.box Tryz.underlying29 rfl HX2.out.mx.info ?_);refine HU3.out.mono ?_;rintro e W3 ⟨rfl,hb3⟩;have HX3:=Lib.hid (HX2.out.below hb3);clear hb3 HU3 f0 f1;obtain ⟨ua,hua⟩:∃u,dtopB m pr (s.kind == 1) s.a=u:=⟨_,rfl⟩;rw [hua] at HV3a;rw [hua];clear hua;cases ua
   · have HZ:Hid (dwayB m pr s=false):=Lib.hid (by rw [HV3a.out];rfl);go_wp2_with fail;go_ret;exact ⟨retB HZ.out.symm,HX3.out.sb.bel⟩
   · have HV3:Hid (dwayB m pr s= ((decide (s.b < 0) || dtopB m pr (s.kind == 2) s.b) && s.args.all (okU m pr))):=Lib.hid (by rw [HV3a.out];rfl);have g0:W3.cell? ⟨w.heap.size+1,0,none⟩=some (.int .i64 s.kind):=HX3.out.sb.cell rfl;have g2:W3.cell? ⟨w.heap.size+1,2,none⟩=some (.int .i64 s.b):=HX3.out.sb.cell rfl;by_cases kb:s.b < 0
     · have kb2:¬0≤s.b:=by omega
       have HV4:Hid (dwayB m pr s=s.args.all (okU m pr)):=Lib.hid (by rw [HV3.out,decide_eq_true kb];rfl);clear kb;have HBW:Hid (Sx w CS #[.int .i64 s.kind,.int .i64 s.a,.int .i64 s.b,.int .i64 s.n,.slice ao s.args.length ac,.slice mo s.mat.length mc,.string s.text] h m W3):=Lib.hid HX3.out;go_wp2_with fail
       go_loopw [8] (fun jv wr=>∃j:Nat,jv= .int .i64 j∧j≤s.args.length∧Hid (∀i (hi:i < s.args.length),i < j→okU m pr s.args[i]=true)∧Hid (Sx w CS #[.int .i64 s.kind,.int .i64 s.a,.int .i64 s.b,.int .i64 s.n,.slice ao s.args.length ac,.slice mo s.mat.length mc,.string s.text] h m wr)) (fun jv _=>s.args.length - (intOf jv).toNat)
       case atStart=>exact ⟨0,rfl,by omega,Lib.hid fun j _ h=>by omega,HBW⟩
       case round=>
        clear HBW;obtain ⟨j,rfl,hj,HJ,HX⟩:=hrel;have hj0: (0:Int)≤j:=by omega
        have hj00:0≤j:=by omega
        have f4:wr.cell? ⟨w.heap.size+1,4,none⟩=some (.slice ao s.args.length ac):=HX.out.sb.cell rfl;by_cases hlt:j < s.args.length
        · have hlti: (j:Int) < s.args.length:=by omega
          obtain ⟨ga,offa,hoa,hga,ea⟩:=HRA.out.cell hlt;obtain ⟨q,hq⟩:∃q,s.args[j]=q:=⟨_,rfl⟩;have hqe:isExprB m q=true:=by
           have h1:=List.all_eq_true.1 (HAB.out HST.out).2.2 _ (List.getElem_mem hlt);rw [hq] at h1;exact h1
          have hq0:=isExpr_le hqe;have ca:wr.cell? ⟨ga,offa+j,none⟩=some (.int .i64 q):=by
           have:=(HX.out.sb.bel.cell (p:=⟨ga,offa+j*1,none⟩) hga).trans ea;rw [Nat.mul_one,hq] at this;exact this
          have HBAD:Hid (okU m pr q=false→dwayB m pr s=false):=Lib.hid fun h=>by rw [HV4.out,all_bad hlt (by rw [hq];exact h)]
          have HGO:Hid (okU m pr q=true→∀i (hi:i < s.args.length),i < j+1→okU m pr s.args[i]=true):=Lib.hid fun h i hi hij=>by
           by_cases e:i=j
           · subst e;rw [hq];exact h
           · exact HJ.out i hi (by omega)
          have HQE:=Lib.hid hqe;have m0:=HX.out.mx.c0;have m1:=HX.out.mx.c1;have m2:=HX.out.mx.c2;have m3:=HX.out.mx.c3;have m4:=HX.out.mx.c4;have m5:=HX.out.mx.c5;have m6:=HX.out.mx.c6;rw [hoa] at f4;clear ea hq hga hoa HJ hq0 hqe;go_wp2_with fail;go_still_tail 7,(by kernel_rfl);change wpList _ _ _ _ _ wr.drew;have HXD:=Lib.hid (HX.out.below (Below.refl _ _).drew);generalize wr.drew=W9 at HXD ⊢;have HU2:=Lib.hid (HU.out W9 HXD.out.mx q HQE.out false);rw [HXD.out.mx.eq] at HU2;unfold mCells at HU2;clear m0 m1 m2 m3 m4 m5 m6 ca f4 HX;go_wp2_with fail;refine HU2.out.mono ?_;rintro e W10 ⟨rfl,hb10⟩;have HX10:=Lib.hid (HXD.out.below hb10);clear hb10 HU2 HXD;obtain ⟨t,ht⟩:∃t,okU m pr q=t:=⟨_,rfl⟩;rw [ht] at HBAD HGO;rw [show dtopB m pr false q=t from ht];clear ht;cases t
          · have HZ:=Lib.hid (HBAD.out rfl);go_wp2_with fail;go_ret;exact ⟨retB HZ.out.symm,HX10.out.sb.bel⟩
          · have HZ:=Lib.hid (HGO.out rfl);go_wp2_with fail;go_roundw;case rel=>exact ⟨j+1,by go_num,by omega,HZ,HX10⟩
            case measure=>simp [intOf];omega
        · have hlti:¬ (j:Int) < s.args.length:=by omega
          have HZ:Hid (dwayB m pr s=true):=Lib.hid (by rw [HV4.out];exact all_of fun i hi=>HJ.out i hi (by omega));go_wp2_with fail;go_ret;exact ⟨retB HZ.out.symm,HX.out.sb.bel⟩
     · have kb2:0≤s.b:=by omega
       have HU4:=Lib.hid (HU.out W3 HX3.out.mx s.b ((HAB.out HST.out).2.1 kb2) (s.kind == 2));have HV3b:Hid (dwayB m pr s= (dtopB m pr (s.kind == 2) s.b && s.args.all (okU m pr))):=Lib.hid (by rw [HV3.out,decide_eq_false kb];rfl);clear kb;go_wp2_with (refine wpList_load_row rfl _ _ rfl _ rfl _ CS _ _ HX3.out.mx.bx.box Tryz.underlying29 rfl HX3.out.mx.info ?_);refine HU4.out.mono ?_;rintro e W4 ⟨rfl,hb4⟩;have HX4:=Lib.hid (HX3.out.below hb4);clear hb4 HU4 g0 g2;obtain ⟨ub,hub⟩:∃u,dtopB m pr (s.kind == 2) s.b=u:=⟨_,rfl⟩;rw [hub] at HV3b;rw [hub];clear hub;cases ub
       · have HZ:Hid (dwayB m pr s=false):=Lib.hid (by rw [HV3b.out];rfl);go_wp2_with fail;go_ret;exact ⟨retB HZ.out.symm,HX4.out.sb.bel⟩
       · have HV4:Hid (dwayB m pr s=s.args.all (okU m pr)):=Lib.hid (by rw [HV3b.out];rfl);have HBW:Hid (Sx w CS #[.int .i64 s.kind,.int .i64 s.a,.int .i64 s.b,.int .i64 s.n,.slice ao s.args.length ac,.slice mo s.mat.length mc,.string s.text] h m W4):=Lib.hid HX4.out;go_wp2_with fail
         go_loopw [8] (fun jv wr=>∃j:Nat,jv= .int .i64 j∧j≤s.args.length∧Hid (∀i (hi:i < s.args.length),i < j→okU m pr s.args[i]=true)∧Hid (Sx w CS #[.int .i64 s.kind,.int .i64 s.a,.int .i64 s.b,.int .i64 s.n,.slice ao s.args.length ac,.slice mo s.mat.length mc,.string s.text] h m wr)) (fun jv _=>s.args.length - (intOf jv).toNat)
         case atStart=>exact ⟨0,rfl,by omega,Lib.hid fun j _ h=>by omega,HBW⟩
         case round=>
          clear HBW;obtain ⟨j,rfl,hj,HJ,HX⟩:=hrel;have hj0: (0:Int)≤j:=by omega
          have hj00:0≤j:=by omega
          have f4:wr.cell? ⟨w.heap.size+1,4,none⟩=some (.slice ao s.args.length ac):=HX.out.sb.cell rfl;by_cases hlt:j < s.args.length
          · have hlti: (j:Int) < s.args.length:=by omega
            obtain ⟨ga,offa,hoa,hga,ea⟩:=HRA.out.cell hlt;obtain ⟨q,hq⟩:∃q,s.args[j]=q:=⟨_,rfl⟩;have hqe:isExprB m q=true:=by
             have h1:=List.all_eq_true.1 (HAB.out HST.out).2.2 _ (List.getElem_mem hlt);rw [hq] at h1;exact h1
            have hq0:=isExpr_le hqe;have ca:wr.cell? ⟨ga,offa+j,none⟩=some (.int .i64 q):=by
             have:=(HX.out.sb.bel.cell (p:=⟨ga,offa+j*1,none⟩) hga).trans ea;rw [Nat.mul_one,hq] at this;exact this
            have HBAD:Hid (okU m pr q=false→dwayB m pr s=false):=Lib.hid fun h=>by rw [HV4.out,all_bad hlt (by rw [hq];exact h)]
            have HGO:Hid (okU m pr q=true→∀i (hi:i < s.args.length),i < j+1→okU m pr s.args[i]=true):=Lib.hid fun h i hi hij=>by
             by_cases e:i=j
             · subst e;rw [hq];exact h
             · exact HJ.out i hi (by omega)
            have HQE:=Lib.hid hqe;have m0:=HX.out.mx.c0;have m1:=HX.out.mx.c1;have m2:=HX.out.mx.c2;have m3:=HX.out.mx.c3;have m4:=HX.out.mx.c4;have m5:=HX.out.mx.c5;have m6:=HX.out.mx.c6;rw [hoa] at f4;clear ea hq hga hoa HJ hq0 hqe;go_wp2_with fail;go_still_tail 7,(by kernel_rfl);change wpList _ _ _ _ _ wr.drew;have HXD:=Lib.hid (HX.out.below (Below.refl _ _).drew);generalize wr.drew=W9 at HXD ⊢;have HU2:=Lib.hid (HU.out W9 HXD.out.mx q HQE.out false);rw [HXD.out.mx.eq] at HU2;unfold mCells at HU2;clear m0 m1 m2 m3 m4 m5 m6 ca f4 HX;go_wp2_with fail;refine HU2.out.mono ?_;rintro e W10 ⟨rfl,hb10⟩;have HX10:=Lib.hid (HXD.out.below hb10);clear hb10 HU2 HXD;obtain ⟨t,ht⟩:∃t,okU m pr q=t:=⟨_,rfl⟩;rw [ht] at HBAD HGO;rw [show dtopB m pr false q=t from ht];clear ht;cases t
            · have HZ:=Lib.hid (HBAD.out rfl);go_wp2_with fail;go_ret;exact ⟨retB HZ.out.symm,HX10.out.sb.bel⟩
            · have HZ:=Lib.hid (HGO.out rfl);go_wp2_with fail;go_roundw;case rel=>exact ⟨j+1,by go_num,by omega,HZ,HX10⟩
              case measure=>simp [intOf];omega
          · have hlti:¬ (j:Int) < s.args.length:=by omega
            have HZ:Hid (dwayB m pr s=true):=Lib.hid (by rw [HV4.out];exact all_of fun i hi=>HJ.out i hi (by omega));go_wp2_with fail;go_ret;exact ⟨retB HZ.out.symm,HX.out.sb.bel⟩
end Go.Proofs.YtnoibjahliafpaaGreatDoor
