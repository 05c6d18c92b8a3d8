/- The document's way of a proctype. -/
import Derived.Test.YthfldokfnjpkmaaGreatDoorM36
import Derived.Test.YthfldokfnjpkmaaGreatDoorM37
import Derived.Test.YthfldokfnjpkmaaGreatDoorM12
import Derived.SizedLaws
import Derived.OpenShut
import Derived.ChangeArms
import Derived.ChangeMaps5
set_option linter.unusedVariables false
set_option linter.unusedSimpArgs false
namespace Go.Proofs.YthfldokfnjpkmaaGreatDoor
open Go.ChangeShapes Go.WideShapes Go.ChangeAt Go.RowKit
theorem Mx.statement {w W:World} {p:Nat} {CS:Array Value} {h:MH} {m:ModelD} (k:Mx w p CS h m W) (s:StmtD) (ao mo:Option Addr) (ac mc:Nat) (hra:Row w.heap.size ao 1 (intAt w) s.args) (hrm:Row w.heap.size mo 1 (intAt w) s.mat):
 Calls Tryz.prog 184 #[.agg CS,.agg #[.int .i64 s.kind,.int .i64 s.a,.int .i64 s.b,.int .i64 s.n,.slice ao s.args.length ac,.slice mo s.mat.length mc,.string s.text]] W fun e w'=>e= .returned (.bool (stmtB m s))∧Below W.heap.size W w':=by
 rw [k.eq,←stmt_is];exact statementH s ao mo ac mc W k.here ((hra.mono fun _ _ _ hg=>intAt.below k.bx.bel hg).up k.bx.bel.size) ((hrm.mono fun _ _ _ hg=>intAt.below k.bx.bel hg).up k.bx.bel.size)
theorem Mx.uses {w W:World} {p:Nat} {CS:Array Value} {h:MH} {m:ModelD} (k:Mx w p CS h m W) (hx:EX m) (pr:Nat) (hpr:pr < m.procs.length) (n:Int) (hn:isExprB m n=true) (run:Bool):Calls Tryz.prog 157 #[.agg CS,.int .i64 pr,.int .i64 n,.bool run] W fun e w'=>e= .returned (.bool (dtopB m pr run n))∧Below W.heap.size W w':=by
 have h1:=isExpr_le hn;obtain ⟨q,rfl⟩:∃q:Nat,n=q:=⟨n.toNat,by omega⟩;rw [k.eq];exact usesH hx pr hpr q (by omega) run W k.here
def clT (ok qc q1 q3 q7 q8:Bool):Bool:= !ok || (qc && !q1 && !q3 && !q7 && !q8)
theorem cl_is (m:ModelD) (pr:Nat) (s:StmtD) (ok:Bool):clT ok ((pr:Int) == m.claim) (s.kind == 1) (s.kind == 3) (s.kind == 7) (s.kind == 8)= !(ok && (!(decide ((pr:Int)=m.claim)) || claimsB s.kind)):=by
 unfold clT claimsB;have e1: ((pr:Int) == m.claim)=decide ((pr:Int)=m.claim):=rfl;have e2: (s.kind == 1)=decide (s.kind=1):=rfl;have e3: (s.kind == 3)=decide (s.kind=3):=rfl;have e4: (s.kind == 7)=decide (s.kind=7):=rfl;have e5: (s.kind == 8)=decide (s.kind=8):=rfl;rw [e1,e2,e3,e4,e5];grind
set_option maxRecDepth 100000 in
set_option maxHeartbeats 8000000 in
theorem wayH {h:MH} {m:ModelD} (hx:EX m) (pr:Nat) (hpr:pr < m.procs.length) (s:StmtD) (ao mo:Option Addr) (ac mc:Nat) (w:World) (hd:MD w.heap.size w h m) (hra:Row w.heap.size ao 1 (intAt w) s.args) (hrm:Row w.heap.size mo 1 (intAt w) s.mat):
 Calls Tryz.prog 156 #[mV h m,.int .i64 pr,.agg (stCells s ao mo ac mc)] w fun e w'=>e= .returned (.bool (dwayB m pr s))∧Below w.heap.size w w':=by
 obtain ⟨CS,hCS⟩:∃c,c=mCells h m:=⟨_,rfl⟩;have la:=hra.1;have HRA:=Lib.hid hra;have HRM:=Lib.hid hrm;have HX:=Lib.hid (Sx.new (SS:=stCells s ao mo ac mc) hd hCS);have HU:=Lib.hid (fun (W:World) (k:Mx w w.heap.size CS h m W) (n:Int) (hn:isExprB m n=true) (run:Bool)=>k.uses hx pr hpr n hn run);have HAB:=Lib.hid (fun (hs:stmtB m s=true)=>stmt_ab hs);have HV:Hid (dwayB m pr s= ((stmtB m s && (!(decide ((pr:Int)=m.claim)) || claimsB s.kind)) && (decide (s.a < 0) || dtopB m pr (s.kind == 1) s.a) && (decide (s.b < 0) || dtopB m pr (s.kind == 2) s.b) && s.args.all (okU m pr))):=Lib.hid rfl;unfold stCells at HX ⊢;unfold mV;rw [←hCS];clear hd hCS hra hrm hx hpr;go_enter Tryz.func156,Tryz.ntmps156;go_upto_region 1 with fail
 generalize (w.alloc (.cells CS 29)).alloc (.cells #[.int .i64 s.kind,.int .i64 s.a,.int .i64 s.b,.int .i64 s.n,.slice ao s.args.length ac,.slice mo s.mat.length mc,.string s.text] 65)=W1 at HX ⊢;go_wp2_with (first | refine wpList_load_row rfl _ _ rfl _ rfl _ CS _ _ HX.out.mx.bx.box Tryz.underlying29 rfl HX.out.mx.info ?_ | refine wpList_load_row rfl _ _ rfl _ rfl _ #[.int .i64 s.kind,.int .i64 s.a,.int .i64 s.b,.int .i64 s.n,.slice ao s.args.length ac,.slice mo s.mat.length mc,.string s.text] _ _ HX.out.sb.box Tryz.underlying65 rfl (by kernel_rfl) ?_);refine (HX.out.mx.statement s ao mo ac mc HRA.out HRM.out).mono ?_;rintro e W2 ⟨rfl,hb2⟩;have HX2:=Lib.hid (HX.out.below hb2);clear hb2 HX;obtain ⟨ok,hok⟩:∃q,stmtB m s=q:=⟨_,rfl⟩;rw [hok] at HV;rw [hok];have HOK:=Lib.hid hok;clear hok;obtain ⟨qc,hqc⟩:∃q,((pr:Int) == m.claim)=q:=⟨_,rfl⟩;obtain ⟨q1,hq1⟩:∃q,(s.kind == 1)=q:=⟨_,rfl⟩;obtain ⟨q3,hq3⟩:∃q,(s.kind == 3)=q:=⟨_,rfl⟩;obtain ⟨q7,hq7⟩:∃q,(s.kind == 7)=q:=⟨_,rfl⟩;obtain ⟨q8,hq8⟩:∃q,(s.kind == 8)=q:=⟨_,rfl⟩;have HCT:Hid (clT ok qc q1 q3 q7 q8= !(ok && (!(decide ((pr:Int)=m.claim)) || claimsB s.kind))):=Lib.hid (by rw [←cl_is,hqc,hq1,hq3,hq7,hq8]);have n1: (s.kind != 1)= !q1:=by rw [←hq1];rfl
 have n3: (s.kind != 3)= !q3:=by rw [←hq3];rfl
 have n7: (s.kind != 7)= !q7:=by rw [←hq7];rfl
 have n8: (s.kind != 8)= !q8:=by rw [←hq8];rfl
 clear hq1 hq3 hq7 hq8;have f0:W2.cell? ⟨w.heap.size+1,0,none⟩=some (.int .i64 s.kind):=HX2.out.sb.cell rfl;have c5:W2.cell? ⟨w.heap.size,5,none⟩=some (.int .i64 m.claim):=HX2.out.mx.c5;go_upto_region 2 with fail
 go_cut [39] from 12 to 39 (fun v wx=>v= .bool (clT ok qc q1 q3 q7 q8)∧W2=wx)
 case first=>
  cases ok
  · go_wp2_with fail;go_meet;case rel=>exact ⟨rfl,rfl⟩
  cases qc
  · go_wp2_with fail;go_meet;case rel=>exact ⟨rfl,rfl⟩
  cases q1;rotate_left
  · go_wp2_with fail;go_meet;case rel=>exact ⟨rfl,rfl⟩
  cases q3;rotate_left
  · go_wp2_with fail;go_meet;case rel=>exact ⟨rfl,rfl⟩
  cases q7;rotate_left
  · go_wp2_with fail;go_meet;case rel=>exact ⟨rfl,rfl⟩
  cases q8
  · go_wp2_with fail;go_meet;case rel=>exact ⟨rfl,rfl⟩
  · go_wp2_with fail;go_meet;case rel=>exact ⟨rfl,rfl⟩
 case rest=>
 obtain ⟨rfl,hwx⟩:=hcut;subst hwx;clear n1 n3 n7 n8 hqc f0 c5;rw [HCT.out];cases hhd: (ok && (!(decide ((pr:Int)=m.claim)) || claimsB s.kind))
 · have HZ:Hid (dwayB m pr s=false):=Lib.hid (by rw [HV.out,hhd];rfl);go_wp2_with fail;go_ret;exact ⟨retB HZ.out.symm,HX2.out.sb.bel⟩
 have HST:Hid (stmtB m s=true):=Lib.hid (by
  rw [Bool.and_eq_true] at hhd;rw [HOK.out];exact hhd.1)
 have HV2:Hid (dwayB m pr s= ((decide (s.a < 0) || dtopB m pr (s.kind == 1) s.a) && (decide (s.b < 0) || dtopB m pr (s.kind == 2) s.b) && s.args.all (okU m pr))):=Lib.hid (by rw [HV.out,hhd];rfl);clear hhd HV HCT HOK
 try simp only [Bool.not_true]
 have f0:W2.cell? ⟨w.heap.size+1,0,none⟩=some (.int .i64 s.kind):=HX2.out.sb.cell rfl;have f1:W2.cell? ⟨w.heap.size+1,1,none⟩=some (.int .i64 s.a):=HX2.out.sb.cell rfl;by_cases ka:s.a < 0
 · have ka2:¬0≤s.a:=by omega
   have HV3:Hid (dwayB m pr s= ((decide (s.b < 0) || dtopB m pr (s.kind == 2) s.b) && s.args.all (okU m pr))):=Lib.hid (by rw [HV2.out,decide_eq_true ka];rfl);clear ka;have g0:W2.cell? ⟨w.heap.size+1,0,none⟩=some (.int .i64 s.kind):=HX2.out.sb.cell rfl;have g2:W2.cell? ⟨w.heap.size+1,2,none⟩=some (.int .i64 s.b):=HX2.out.sb.cell rfl;by_cases kb:s.b < 0
   · have kb2:¬0≤s.b:=by omega
     have HV4:Hid (dwayB m pr s=s.args.all (okU m pr)):=Lib.hid (by rw [HV3.out,decide_eq_true kb];rfl);clear kb;have HBW:Hid (Sx w CS #[.int .i64 s.kind,.int .i64 s.a,.int .i64 s.b,.int .i64 s.n,.slice ao s.args.length ac,.slice mo s.mat.length mc,.string s.text] h m W2):=Lib.hid HX2.out;go_wp2_with fail
     go_loopw [8] (fun jv wr=>∃j:Nat,jv= .int .i64 j∧j≤s.args.length∧Hid (∀i (hi:i < s.args.length),i < j→okU m pr s.args[i]=true)∧Hid (Sx w CS #[.int .i64 s.kind,.int .i64 s.a,.int .i64 s.b,.int .i64 s.n,.slice ao s.args.length ac,.slice mo s.mat.length mc,.string s.text] h m wr)) (fun jv _=>s.args.length - (intOf jv).toNat)
     case atStart=>exact ⟨0,rfl,by omega,Lib.hid fun j _ h=>by omega,HBW⟩
     case round=>
      clear HBW;obtain ⟨j,rfl,hj,HJ,HX⟩:=hrel;have hj0: (0:Int)≤j:=by omega
      have hj00:0≤j:=by omega
      have f4:wr.cell? ⟨w.heap.size+1,4,none⟩=some (.slice ao s.args.length ac):=HX.out.sb.cell rfl;by_cases hlt:j < s.args.length
      · have hlti: (j:Int) < s.args.length:=by omega
        obtain ⟨ga,offa,hoa,hga,ea⟩:=HRA.out.cell hlt;obtain ⟨q,hq⟩:∃q,s.args[j]=q:=⟨_,rfl⟩;have hqe:isExprB m q=true:=by
         have h1:=List.all_eq_true.1 (HAB.out HST.out).2.2 _ (List.getElem_mem hlt);rw [hq] at h1;exact h1
        have hq0:=isExpr_le hqe;have ca:wr.cell? ⟨ga,offa+j,none⟩=some (.int .i64 q):=by
         have:=(HX.out.sb.bel.cell (p:=⟨ga,offa+j*1,none⟩) hga).trans ea;rw [Nat.mul_one,hq] at this;exact this
        have HBAD:Hid (okU m pr q=false→dwayB m pr s=false):=Lib.hid fun h=>by rw [HV4.out,all_bad hlt (by rw [hq];exact h)]
        have HGO:Hid (okU m pr q=true→∀i (hi:i < s.args.length),i < j+1→okU m pr s.args[i]=true):=Lib.hid fun h i hi hij=>by
         by_cases e:i=j
         · subst e;rw [hq];exact h
         · exact HJ.out i hi (by omega)
        have HQE:=Lib.hid hqe;have m0:=HX.out.mx.c0;have m1:=HX.out.mx.c1;have m2:=HX.out.mx.c2;have m3:=HX.out.mx.c3;have m4:=HX.out.mx.c4;have m5:=HX.out.mx.c5;have m6:=HX.out.mx.c6;rw [hoa] at f4;clear ea hq hga hoa HJ hq0 hqe;go_wp2_with fail;go_still_tail 7,(by kernel_rfl);change wpList _ _ _ _ _ wr.drew;have HXD:=Lib.hid (HX.out.below (Below.refl _ _).drew);generalize wr.drew=W9 at HXD ⊢;have HU2:=Lib.hid (HU.out W9 HXD.out.mx q HQE.out false);rw [HXD.out.mx.eq] at HU2;unfold mCells at HU2;clear m0 m1 m2 m3 m4 m5 m6 ca f4 HX;go_wp2_with fail;refine HU2.out.mono ?_;rintro e W10 ⟨rfl,hb10⟩;have HX10:=Lib.hid (HXD.out.below hb10);clear hb10 HU2 HXD;obtain ⟨t,ht⟩:∃t,okU m pr q=t:=⟨_,rfl⟩;rw [ht] at HBAD HGO;rw [show dtopB m pr false q=t from ht];clear ht;cases t
        · have HZ:=Lib.hid (HBAD.out rfl);go_wp2_with fail;go_ret;exact ⟨retB HZ.out.symm,HX10.out.sb.bel⟩
        · have HZ:=Lib.hid (HGO.out rfl);go_wp2_with fail;go_roundw;case rel=>exact ⟨j+1,by go_num,by omega,HZ,HX10⟩
          case measure=>simp [intOf];omega
      · have hlti:¬ (j:Int) < s.args.length:=by omega
        have HZ:Hid (dwayB m pr s=true):=Lib.hid (by rw [HV4.out];exact all_of fun i hi=>HJ.out i hi (by omega));go_wp2_with fail;go_ret;exact ⟨retB HZ.out.symm,HX.out.sb.bel⟩
   · have kb2:0≤s.b:=by omega
     have HU4:=Lib.hid (HU.out W2 HX2.out.mx s.b ((HAB.out HST.out).2.1 kb2) (s.kind == 2));have HV3b:Hid (dwayB m pr s= (dtopB m pr (s.kind == 2) s.b && s.args.all (okU m pr))):=Lib.hid (by rw [HV3.out,decide_eq_false kb];rfl);clear kb;go_wp2_with (refine wpList_load_row rfl _ _ rfl _ rfl _ CS _ _ HX2.out.mx.bx.box Tryz.underlying29 rfl HX2.out.mx.info ?_);refine HU4.out.mono ?_;rintro e W4 ⟨rfl,hb4⟩;have HX4:=Lib.hid (HX2.out.below hb4);clear hb4 HU4 g0 g2;obtain ⟨ub,hub⟩:∃u,dtopB m pr (s.kind == 2) s.b=u:=⟨_,rfl⟩;rw [hub] at HV3b;rw [hub];clear hub;cases ub
     · have HZ:Hid (dwayB m pr s=false):=Lib.hid (by rw [HV3b.out];rfl);go_wp2_with fail;go_ret;exact ⟨retB HZ.out.symm,HX4.out.sb.bel⟩
     · have HV4:Hid (dwayB m pr s=s.args.all (okU m pr)):=Lib.hid (by rw [HV3b.out];rfl);have HBW:Hid (Sx w CS #[.int .i64 s.kind,.int .i64 s.a,.int .i64 s.b,.int .i64 s.n,.slice ao s.args.length ac,.slice mo s.mat.length mc,.string s.text] h m W4):=Lib.hid HX4.out;go_wp2_with fail
       go_loopw [8] (fun jv wr=>∃j:Nat,jv= .int .i64 j∧j≤s.args.length∧Hid (∀i (hi:i < s.args.length),i < j→okU m pr s.args[i]=true)∧Hid (Sx w CS #[.int .i64 s.kind,.int .i64 s.a,.int .i64 s.b,.int .i64 s.n,.slice ao s.args.length ac,.slice mo s.mat.length mc,.string s.text] h m wr)) (fun jv _=>s.args.length - (intOf jv).toNat)
       case atStart=>exact ⟨0,rfl,by omega,Lib.hid fun j _ h=>by omega,HBW⟩
       case round=>
        clear HBW;obtain ⟨j,rfl,hj,HJ,HX⟩:=hrel;have hj0: (0:Int)≤j:=by omega
        have hj00:0≤j:=by omega
        have f4:wr.cell? ⟨w.heap.size+1,4,none⟩=some (.slice ao s.args.length ac):=HX.out.sb.cell rfl;by_cases hlt:j < s.args.length
        · have hlti: (j:Int) < s.args.length:=by omega
          obtain ⟨ga,offa,hoa,hga,ea⟩:=HRA.out.cell hlt;obtain ⟨q,hq⟩:∃q,s.args[j]=q:=⟨_,rfl⟩;have hqe:isExprB m q=true:=by
           have h1:=List.all_eq_true.1 (HAB.out HST.out).2.2 _ (List.getElem_mem hlt);rw [hq] at h1;exact h1
          have hq0:=isExpr_le hqe;have ca:wr.cell? ⟨ga,offa+j,none⟩=some (.int .i64 q):=by
           have:=(HX.out.sb.bel.cell (p:=⟨ga,offa+j*1,none⟩) hga).trans ea;rw [Nat.mul_one,hq] at this;exact this
          have HBAD:Hid (okU m pr q=false→dwayB m pr s=false):=Lib.hid fun h=>by rw [HV4.out,all_bad hlt (by rw [hq];exact h)]
          have HGO:Hid (okU m pr q=true→∀i (hi:i < s.args.length),i < j+1→okU m pr s.args[i]=true):=Lib.hid fun h i hi hij=>by
           by_cases e:i=j
           · subst e;rw [hq];exact h
           · exact HJ.out i hi (by omega)
          have HQE:=Lib.hid hqe;have m0:=HX.out.mx.c0;have m1:=HX.out.mx.c1;have m2:=HX.out.mx.c2;have m3:=HX.out.mx.c3;have m4:=HX.out.mx.c4;have m5:=HX.out.mx.c5;have m6:=HX.out.mx.c6;rw [hoa] at f4;clear ea hq hga hoa HJ hq0 hqe;go_wp2_with fail;go_still_tail 7,(by kernel_rfl);change wpList _ _ _ _ _ wr.drew;have HXD:=Lib.hid (HX.out.below (Below.refl _ _).drew);generalize wr.drew=W9 at HXD ⊢;have HU2:=Lib.hid (HU.out W9 HXD.out.mx q HQE.out false);rw [HXD.out.mx.eq] at HU2;unfold mCells at HU2;clear m0 m1 m2 m3 m4 m5 m6 ca f4 HX;go_wp2_with fail;refine HU2.out.mono ?_;rintro e W10 ⟨rfl,hb10⟩;have HX10:=Lib.hid (HXD.out.below hb10);clear hb10 HU2 HXD;obtain ⟨t,ht⟩:∃t,okU m pr q=t:=⟨_,rfl⟩;rw [ht] at HBAD HGO;rw [show dtopB m pr false q=t from ht];clear ht;cases t
          · have HZ:=Lib.hid (HBAD.out rfl);go_wp2_with fail;go_ret;exact ⟨retB HZ.out.symm,HX10.out.sb.bel⟩
          · have HZ:=Lib.hid (HGO.out rfl);go_wp2_with fail;go_roundw;case rel=>exact ⟨j+1,by go_num,by omega,HZ,HX10⟩
            case measure=>simp [intOf];omega
        · have hlti:¬ (j:Int) < s.args.length:=by omega
          have HZ:Hid (dwayB m pr s=true):=Lib.hid (by rw [HV4.out];exact all_of fun i hi=>HJ.out i hi (by omega));go_wp2_with fail;go_ret;exact ⟨retB HZ.out.symm,HX.out.sb.bel⟩
 · have ka2:0≤s.a:=by omega
   have HU3:=Lib.hid (HU.out W2 HX2.out.mx s.a ((HAB.out HST.out).1 ka2) (s.kind == 1));have HV3a:Hid (dwayB m pr s= (dtopB m pr (s.kind == 1) s.a && (decide (s.b < 0) || dtopB m pr (s.kind == 2) s.b) && s.args.all (okU m pr))):=Lib.hid (by rw [HV2.out,decide_eq_false ka];rfl);clear ka;go_wp2_with (refine wpList_load_row rfl _ _ rfl _ rfl _ CS _ _ HX2.out.mx.bx.box Tryz.underlying29 rfl HX2.out.mx.info ?_);refine HU3.out.mono ?_;rintro e W3 ⟨rfl,hb3⟩;have HX3:=Lib.hid (HX2.out.below hb3);clear hb3 HU3 f0 f1;obtain ⟨ua,hua⟩:∃u,dtopB m pr (s.kind == 1) s.a=u:=⟨_,rfl⟩;rw [hua] at HV3a;rw [hua];clear hua;cases ua
   · have HZ:Hid (dwayB m pr s=false):=Lib.hid (by rw [HV3a.out];rfl);go_wp2_with fail;go_ret;exact ⟨retB HZ.out.symm,HX3.out.sb.bel⟩
   · have HV3:Hid (dwayB m pr s= ((decide (s.b < 0) || dtopB m pr (s.kind == 2) s.b) && s.args.all (okU m pr))):=Lib.hid (by rw [HV3a.out];rfl);have g0:W3.cell? ⟨w.heap.size+1,0,none⟩=some (.int .i64 s.kind):=HX3.out.sb.cell rfl;have g2:W3.cell? ⟨w.heap.size+1,2,none⟩=some (.int .i64 s.b):=HX3.out.sb.cell rfl;by_cases kb:s.b < 0
     · have kb2:¬0≤s.b:=by omega
       have HV4:Hid (dwayB m pr s=s.args.all (okU m pr)):=Lib.hid (by rw [HV3.out,decide_eq_true kb];rfl);clear kb;have HBW:Hid (Sx w CS #[.int .i64 s.kind,.int .i64 s.a,.int .i64 s.b,.int .i64 s.n,.slice ao s.args.length ac,.slice mo s.mat.length mc,.string s.text] h m W3):=Lib.hid HX3.out;go_wp2_with fail
       go_loopw [8] (fun jv wr=>∃j:Nat,jv= .int .i64 j∧j≤s.args.length∧Hid (∀i (hi:i < s.args.length),i < j→okU m pr s.args[i]=true)∧Hid (Sx w CS #[.int .i64 s.kind,.int .i64 s.a,.int .i64 s.b,.int .i64 s.n,.slice ao s.args.length ac,.slice mo s.mat.length mc,.string s.text] h m wr)) (fun jv _=>s.args.length - (intOf jv).toNat)
       case atStart=>exact ⟨0,rfl,by omega,Lib.hid fun j _ h=>by omega,HBW⟩
       case round=>
        clear HBW;obtain ⟨j,rfl,hj,HJ,HX⟩:=hrel;have hj0: (0:Int)≤j:=by omega
        have hj00:0≤j:=by omega
        have f4:wr.cell? ⟨w.heap.size+1,4,none⟩=some (.slice ao s.args.length ac):=HX.out.sb.cell rfl;by_cases hlt:j < s.args.length
        · have hlti: (j:Int) < s.args.length:=by omega
          obtain ⟨ga,offa,hoa,hga,ea⟩:=HRA.out.cell hlt;obtain ⟨q,hq⟩:∃q,s.args[j]=q:=⟨_,rfl⟩;have hqe:isExprB m q=true:=by
           have h1:=List.all_eq_true.1 (HAB.out HST.out).2.2 _ (List.getElem_mem hlt);rw [hq] at h1;exact h1
          have hq0:=isExpr_le hqe;have ca:wr.cell? ⟨ga,offa+j,none⟩=some (.int .i64 q):=by
           have:=(HX.out.sb.bel.cell (p:=⟨ga,offa+j*1,none⟩) hga).trans ea;rw [Nat.mul_one,hq] at this;exact this
          have HBAD:Hid (okU m pr q=false→dwayB m pr s=false):=Lib.hid fun h=>by rw [HV4.out,all_bad hlt (by rw [hq];exact h)]
          have HGO:Hid (okU m pr q=true→∀i (hi:i < s.args.length),i < j+1→okU m pr s.args[i]=true):=Lib.hid fun h i hi hij=>by
           by_cases e:i=j
           · subst e;rw [hq];exact h
           · exact HJ.out i hi (by omega)
          have HQE:=Lib.hid hqe;have m0:=HX.out.mx.c0;have m1:=HX.out.mx.c1;have m2:=HX.out.mx.c2;have m3:=HX.out.mx.c3;have m4:=HX.out.mx.c4;have m5:=HX.out.mx.c5;have m6:=HX.out.mx.c6;rw [hoa] at f4;clear ea hq hga hoa HJ hq0 hqe;go_wp2_with fail;go_still_tail 7,(by kernel_rfl);change wpList _ _ _ _ _ wr.drew;have HXD:=Lib.hid (HX.out.below (Below.refl _ _).drew);generalize wr.drew=W9 at HXD ⊢;have HU2:=Lib.hid (HU.out W9 HXD.out.mx q HQE.out false);rw [HXD.out.mx.eq] at HU2;unfold mCells at HU2;clear m0 m1 m2 m3 m4 m5 m6 ca f4 HX;go_wp2_with fail;refine HU2.out.mono ?_;rintro e W10 ⟨rfl,hb10⟩;have HX10:=Lib.hid (HXD.out.below hb10);clear hb10 HU2 HXD;obtain ⟨t,ht⟩:∃t,okU m pr q=t:=⟨_,rfl⟩;rw [ht] at HBAD HGO;rw [show dtopB m pr false q=t from ht];clear ht;cases t
          · have HZ:=Lib.hid (HBAD.out rfl);go_wp2_with fail;go_ret;exact ⟨retB HZ.out.symm,HX10.out.sb.bel⟩
          · have HZ:=Lib.hid (HGO.out rfl);go_wp2_with fail;go_roundw;case rel=>exact ⟨j+1,by go_num,by omega,HZ,HX10⟩
            case measure=>simp [intOf];omega
        · have hlti:¬ (j:Int) < s.args.length:=by omega
          have HZ:Hid (dwayB m pr s=true):=Lib.hid (by rw [HV4.out];exact all_of fun i hi=>HJ.out i hi (by omega));go_wp2_with fail;go_ret;exact ⟨retB HZ.out.symm,HX.out.sb.bel⟩
     · have kb2:0≤s.b:=by omega
       have HU4:=Lib.hid (HU.out W3 HX3.out.mx s.b ((HAB.out HST.out).2.1 kb2) (s.kind == 2));have HV3b:Hid (dwayB m pr s= (dtopB m pr (s.kind == 2) s.b && s.args.all (okU m pr))):=Lib.hid (by rw [HV3.out,decide_eq_false kb];rfl);clear kb;go_wp2_with (refine wpList_load_row rfl _ _ rfl _ rfl _ CS _ _ HX3.out.mx.bx.box Tryz.underlying29 rfl HX3.out.mx.info ?_);refine HU4.out.mono ?_;rintro e W4 ⟨rfl,hb4⟩;have HX4:=Lib.hid (HX3.out.below hb4);clear hb4 HU4 g0 g2;obtain ⟨ub,hub⟩:∃u,dtopB m pr (s.kind == 2) s.b=u:=⟨_,rfl⟩;rw [hub] at HV3b;rw [hub];clear hub;cases ub
       · have HZ:Hid (dwayB m pr s=false):=Lib.hid (by rw [HV3b.out];rfl);go_wp2_with fail;go_ret;exact ⟨retB HZ.out.symm,HX4.out.sb.bel⟩
       · have HV4:Hid (dwayB m pr s=s.args.all (okU m pr)):=Lib.hid (by rw [HV3b.out];rfl);have HBW:Hid (Sx w CS #[.int .i64 s.kind,.int .i64 s.a,.int .i64 s.b,.int .i64 s.n,.slice ao s.args.length ac,.slice mo s.mat.length mc,.string s.text] h m W4):=Lib.hid HX4.out;go_wp2_with fail
         go_loopw [8] (fun jv wr=>∃j:Nat,jv= .int .i64 j∧j≤s.args.length∧Hid (∀i (hi:i < s.args.length),i < j→okU m pr s.args[i]=true)∧Hid (Sx w CS #[.int .i64 s.kind,.int .i64 s.a,.int .i64 s.b,.int .i64 s.n,.slice ao s.args.length ac,.slice mo s.mat.length mc,.string s.text] h m wr)) (fun jv _=>s.args.length - (intOf jv).toNat)
         case atStart=>exact ⟨0,rfl,by omega,Lib.hid fun j _ h=>by omega,HBW⟩
         case round=>
          clear HBW;obtain ⟨j,rfl,hj,HJ,HX⟩:=hrel;have hj0: (0:Int)≤j:=by omega
          have hj00:0≤j:=by omega
          have f4:wr.cell? ⟨w.heap.size+1,4,none⟩=some (.slice ao s.args.length ac):=HX.out.sb.cell rfl;by_cases hlt:j < s.args.length
          · have hlti: (j:Int) < s.args.length:=by omega
            obtain ⟨ga,offa,hoa,hga,ea⟩:=HRA.out.cell hlt;obtain ⟨q,hq⟩:∃q,s.args[j]=q:=⟨_,rfl⟩;have hqe:isExprB m q=true:=by
             have h1:=List.all_eq_true.1 (HAB.out HST.out).2.2 _ (List.getElem_mem hlt);rw [hq] at h1;exact h1
            have hq0:=isExpr_le hqe;have ca:wr.cell? ⟨ga,offa+j,none⟩=some (.int .i64 q):=by
             have:=(HX.out.sb.bel.cell (p:=⟨ga,offa+j*1,none⟩) hga).trans ea;rw [Nat.mul_one,hq] at this;exact this
            have HBAD:Hid (okU m pr q=false→dwayB m pr s=false):=Lib.hid fun h=>by rw [HV4.out,all_bad hlt (by rw [hq];exact h)]
            have HGO:Hid (okU m pr q=true→∀i (hi:i < s.args.length),i < j+1→okU m pr s.args[i]=true):=Lib.hid fun h i hi hij=>by
             by_cases e:i=j
             · subst e;rw [hq];exact h
             · exact HJ.out i hi (by omega)
            have HQE:=Lib.hid hqe;have m0:=HX.out.mx.c0;have m1:=HX.out.mx.c1;have m2:=HX.out.mx.c2;have m3:=HX.out.mx.c3;have m4:=HX.out.mx.c4;have m5:=HX.out.mx.c5;have m6:=HX.out.mx.c6;rw [hoa] at f4;clear ea hq hga hoa HJ hq0 hqe;go_wp2_with fail;go_still_tail 7,(by kernel_rfl);change wpList _ _ _ _ _ wr.drew;have HXD:=Lib.hid (HX.out.below (Below.refl _ _).drew);generalize wr.drew=W9 at HXD ⊢;have HU2:=Lib.hid (HU.out W9 HXD.out.mx q HQE.out false);rw [HXD.out.mx.eq] at HU2;unfold mCells at HU2;clear m0 m1 m2 m3 m4 m5 m6 ca f4 HX;go_wp2_with fail;refine HU2.out.mono ?_;rintro e W10 ⟨rfl,hb10⟩;have HX10:=Lib.hid (HXD.out.below hb10);clear hb10 HU2 HXD;obtain ⟨t,ht⟩:∃t,okU m pr q=t:=⟨_,rfl⟩;rw [ht] at HBAD HGO;rw [show dtopB m pr false q=t from ht];clear ht;cases t
            · have HZ:=Lib.hid (HBAD.out rfl);go_wp2_with fail;go_ret;exact ⟨retB HZ.out.symm,HX10.out.sb.bel⟩
            · have HZ:=Lib.hid (HGO.out rfl);go_wp2_with fail;go_roundw;case rel=>exact ⟨j+1,by go_num,by omega,HZ,HX10⟩
              case measure=>simp [intOf];omega
          · have hlti:¬ (j:Int) < s.args.length:=by omega
            have HZ:Hid (dwayB m pr s=true):=Lib.hid (by rw [HV4.out];exact all_of fun i hi=>HJ.out i hi (by omega));go_wp2_with fail;go_ret;exact ⟨retB HZ.out.symm,HX.out.sb.bel⟩
end Go.Proofs.YthfldokfnjpkmaaGreatDoor
namespace Go.Proofs.YthfldokfnjpkmaaGreatDoor
open Go.ChangeShapes Go.WideShapes Go.ChangeAt Go.RowKit
set_option maxRecDepth 100000
theorem list_of {α:Type} (p:Nat→α→Prop):∀n,(∀i,i < n→∃m,p i m)→∃l:List α,l.length=n∧∀i (h:i < l.length),p i l[i]
 | 0,_=>⟨[],rfl,fun i h=>by simp at h⟩
 | n+1,h=>by
   obtain ⟨l,hl,hp⟩:=list_of p n fun i hi=>h i (by omega)
   obtain ⟨m,hm⟩:=h n (by omega);refine ⟨l ++ [m],by simp [hl],fun i hi=> ?_⟩;by_cases e:i < l.length
   · rw [List.getElem_append_left e];exact hp i e
   · obtain rfl:i=l.length:=by simp at hi;omega
     rw [List.getElem_append_right (Nat.le_refl _)];simpa [hl] using hm
theorem add_off (b off k:Nat): (⟨b,off,none⟩:Addr).add k= ⟨b,off+k,none⟩:=by
 unfold Addr.add;split
 · rename_i h
   subst h;rfl
 · rfl
theorem weightsAll_mem {H:Type} {P:Program} {e:TypeId}:∀ {l:List (DataW H)} {d:DataW H},d ∈ l→∀k ∈ DataW.weights P e d,k ∈ DataW.weightsAll P e l
 | x :: l,d,hd,k,hk=>by
   simp only [DataW.weightsAll,List.mem_append];rcases List.mem_cons.1 hd with rfl | hd
   · exact .inl hk
   · exact .inr (weightsAll_mem hd k hk)
def Fits {H:Type} (t:TypeId) (d:DataW H):Prop:=∀k ∈ DataW.weights Tryz.prog t d,k≤reachBytes
def Lies (W:World) (g off:Nat) (ds:List Value):Prop:=∀j,j < ds.length→W.cell? ⟨g,off+j,none⟩=ds[j]?
theorem Lies.part {W:World} {g off:Nat} {ds:List Value} (h:Lies W g off ds) (o n:Nat):Lies W g (off+o) ((ds.drop o).take n):=by
 intro j hj;rw [List.length_take,List.length_drop] at hj;rw [List.getElem?_take_of_lt (by omega),List.getElem?_drop,Nat.add_assoc];exact h _ (by omega)
variable {H:Type} {enc:TypeId × Value→H} {W:World} {base:Nat} {sp:Nat→Bool} {hd:Bool} {fuel:Nat}
theorem open_rowS {t e:TypeId} {kk bb:Nat} {cs:List Value} {x:DataW H × List MemPlace} (ht:Tryz.prog.underlying t=some (.slice e)) (hk:Tryz.prog.cellsOf e=kk) (hk1:0 < kk) (hbb:Tryz.prog.bytesOf e=bb) (h:DataW.trod enc Tryz.prog W base sp hd fuel t cs=some x) (hw:Fits t x.1):
 ∃o n c,cs= [.slice o n c]∧n*bb≤reachBytes∧ (n=0∨∃g off,o=some ⟨g,off,none⟩∧g < W.heap.size∧∀i,i < n→∃ (ds:List Value) (y:DataW H × List MemPlace) (m:Nat),ds.length=kk∧ (∀j,j < kk→W.cell? ⟨g,off+i*kk+j,none⟩=ds[j]?)∧DataW.trod enc Tryz.prog W base sp hd m e ds=some y∧Fits e y.1):=by
 rcases DataW.trod_slice ht h with ⟨hcs,_⟩ | ⟨a,l,c,elems,rest,n',_,hcs,hy,hb,hl,hm,hel,hcell,_⟩
 · exact ⟨none,0,0,hcs,by simp,.inl rfl⟩
 · have hbk:l*bb≤reachBytes:=by
    have h1: ((elems.map (·.1)).length+ (rest.map (·.1)).length)*Tryz.prog.bytesOf e≤reachBytes:=hw _ (by
     rw [hy];simp only [DataW.weights,ht];exact List.mem_cons_self ..)
    rw [hbb,List.length_map,hel] at h1;exact Nat.le_trans (Nat.mul_le_mul_right _ (Nat.le_add_right _ _)) h1
   refine ⟨some a,l,c,hcs,hbk, ?_⟩;by_cases hl0:l=0
   · exact .inl hl0
   · rw [hk] at hcell;obtain ⟨ab,off,spot⟩:=a;have hspot:spot=none:=by
      have hc:=hcell 0 (by omega);rw [List.getElem?_eq_getElem (by omega)] at hc;obtain ⟨cs,hcs,_⟩:=Option.bind_eq_some_iff.1 hc;obtain ⟨_,hl4,h0⟩:=World.cells?_some hcs;have h0:=h0 0 (by omega);rw [List.getElem?_eq_getElem (by omega)] at h0;have h1:=World.cell?_spot h0;simpa [Addr.add] using h1
     subst hspot;have hall:∀i,i < l→∃ (ds:List Value) (y:DataW H × List MemPlace) (m:Nat),ds.length=kk∧ (∀j,j < kk→W.cell? ⟨ab,off+i*kk+j,none⟩=ds[j]?)∧DataW.trod enc Tryz.prog W base sp hd m e ds=some y∧Fits e y.1:=fun i hi=>by
      have hc:=hcell i hi;rw [List.getElem?_eq_getElem (by omega),add_off] at hc;obtain ⟨cs,hcs,htr⟩:=Option.bind_eq_some_iff.1 hc;obtain ⟨_,hl4,hcc⟩:=World.cells?_some hcs;refine ⟨cs,_,_,hl4,fun j hj=> ?_,htr,fun k hk=>hw k ?_⟩
      · have:=hcc j hj;rw [add_off] at this;exact this
      · rw [hy];simp only [DataW.weights,ht];refine List.mem_cons_of_mem _ (List.mem_append_left _ (weightsAll_mem ?_ k hk));exact List.mem_map.2 ⟨_,List.getElem_mem _,rfl⟩
     obtain ⟨ds,y,m,h1,h2,_⟩:=hall 0 (by omega);have h3:=h2 0 hk1;rw [List.getElem?_eq_getElem (by omega)] at h3;exact .inr ⟨ab,off,rfl,World.block_lt_of_cell? W _ h3,hall⟩
def Part (enc:TypeId × Value→H) (W:World) (base:Nat) (sp:Nat→Bool) (hd:Bool) (e:TypeId) (g off:Nat):Prop:=
 ∃m ds y,Lies W g off ds∧DataW.trod enc Tryz.prog W base sp hd m e ds=some y∧Fits e y.1
def Opens {α:Type} (enc:TypeId × Value→H) (W:World) (base:Nat) (sp:Nat→Bool) (hd:Bool) (e:TypeId) (R:Nat→Nat→α→Prop):Prop:=∀g off,Part enc W base sp hd e g off→∃x,R g off x
theorem open_fits {t:TypeId} {fs:Array Field} {ds:List Value} {m:Nat} {y:DataW H × List MemPlace} (hs:Tryz.prog.underlying t=some (.struct fs)) (h:DataW.trod enc Tryz.prog W base sp hd m t ds=some y) (hw:Fits t y.1):
 ∀ (j:Nat) (f:Field),fs[j]? =some f→∃n y',DataW.trod enc Tryz.prog W base sp hd n f.type ((ds.drop f.offset).take (Tryz.prog.cellsOf f.type))=some y'∧Fits f.type y'.1:=by
 obtain ⟨xs,n,_,rfl,hl,hlen,hf⟩:=DataW.trod_struct hs h;intro j f hj;have hjl:j < fs.size:=(Array.getElem?_eq_some_iff.1 hj).1;have hx:xs[j]? =some (xs[j]'(by omega)):=List.getElem?_eq_getElem (by omega);refine ⟨n,xs[j]'(by omega),(hf j f hj).trans hx,fun k hk=>hw k ?_⟩;simp only [DataW.weights,hs];refine DataW.weights_mem_each (j:=j) (t:=f.type) (d:=(xs[j]'(by omega)).1) ?_ ?_ k hk
 · rw [List.getElem?_map,Array.getElem?_toList,hj];rfl
 · rw [List.getElem?_map,hx];rfl
theorem open_parts {t:TypeId} {fs:Array Field} {g off:Nat} (hs:Tryz.prog.underlying t=some (.struct fs)) (h:Part enc W base sp hd t g off):
 ∀ (j:Nat) (f:Field),fs[j]? =some f→Part enc W base sp hd f.type g (off+f.offset):=by
 obtain ⟨m,ds,y,hl,h1,hw⟩:=h;intro j f hj;obtain ⟨n,y',h2,h3⟩:=open_fits hs h1 hw j f hj;exact ⟨n,_,y',hl.part _ _,h2,h3⟩
theorem opens_int {t:TypeId} (ht:Tryz.prog.underlying t=some (.int .i64)):Opens enc W base sp hd t (intAt W):=by
 rintro g off ⟨m,ds,y,hl,h,_⟩;obtain ⟨v,rfl,_,_⟩:=DataW.trod_int ht h;exact ⟨v,hl 0 (by simp)⟩
theorem opens_bool {t:TypeId} (ht:Tryz.prog.underlying t=some .bool):Opens enc W base sp hd t (boolAt W):=by
 rintro g off ⟨m,ds,y,hl,h,_⟩;obtain ⟨v,rfl,_⟩:=DataW.trod_bool ht h;exact ⟨v,hl 0 (by simp)⟩
theorem opens_str {t:TypeId} (ht:Tryz.prog.underlying t=some .string):Opens enc W base sp hd t (strAt W):=by
 rintro g off ⟨m,ds,y,hl,h,_⟩;obtain ⟨v,rfl,_⟩:=DataW.trod_string ht h;exact ⟨v,hl 0 (by simp)⟩
theorem open_sli {α:Type} {R:Nat→Nat→α→Prop} {t e:TypeId} {kk bb:Nat} {cs:List Value} {x:DataW H × List MemPlace} (ht:Tryz.prog.underlying t=some (.slice e)) (hk:Tryz.prog.cellsOf e=kk) (hk1:0 < kk) (hbb:Tryz.prog.bytesOf e=bb) (hb1:0 < bb) (he:Opens enc W base sp hd e R)
 (h:DataW.trod enc Tryz.prog W base sp hd fuel t cs=some x) (hw:Fits t x.1):∃o l c,cs= [.slice o (List.length l) c]∧Row W.heap.size o kk R l:=by
 obtain ⟨o,n,c,rfl,hn,hr⟩:=open_rowS ht hk hk1 hbb h hw;have hn2:n≤140737488355328:=by
  have h1:n*1≤n*bb:=Nat.mul_le_mul_left _ hb1;have h2:reachBytes=140737488351232:=rfl;omega
 rcases hr with h0 | ⟨g,off,ho,hg,hc⟩
 · subst h0;exact ⟨o,[],c,rfl,by simp,.inl rfl⟩
 · obtain ⟨l,hl,hp⟩:=list_of (fun i (v:α)=>R g (off+i*kk) v) n fun i hi=>by
    obtain ⟨ds,y,m,h1,h2,h3,h4⟩:=hc i hi;exact he _ _ ⟨m,ds,y,fun j hj=>h2 j (by omega),h3,h4⟩
   subst hl;exact ⟨o,l,c,rfl,hn2,.inr ⟨g,off,ho,hg,hp⟩⟩
theorem opens_sli {α:Type} {R:Nat→Nat→α→Prop} {t e:TypeId} {kk bb:Nat} (ht:Tryz.prog.underlying t=some (.slice e)) (hk:Tryz.prog.cellsOf e=kk) (hk1:0 < kk) (hbb:Tryz.prog.bytesOf e=bb) (hb1:0 < bb) (he:Opens enc W base sp hd e R):
 Opens enc W base sp hd t (fun g a (l:List α)=>Sli W.heap.size W g a kk R l):=by
 rintro g off ⟨m,ds,y,hl,h,hw⟩;obtain ⟨o,l,c,rfl,hr⟩:=open_sli ht hk hk1 hbb hb1 he h hw;exact ⟨l,o,c,hl 0 (by simp),hr⟩
theorem c_int:Tryz.prog.cellsOf 3=1∧Tryz.prog.bytesOf 3=8:=⟨by kernel_rfl,by kernel_rfl⟩
theorem c_int64:Tryz.prog.cellsOf 2=1∧Tryz.prog.bytesOf 2=8:=⟨by kernel_rfl,by kernel_rfl⟩
theorem opens_ints:Opens enc W base sp hd 25 (fun g a l=>Sli W.heap.size W g a 1 (intAt W) l):=opens_sli Tryz.underlying25 c_int.1 (by decide) c_int.2 (by decide) (opens_int Tryz.underlying3)
theorem opens_int64s:Opens enc W base sp hd 23 (fun g a l=>Sli W.heap.size W g a 1 (intAt W) l):=opens_sli Tryz.underlying23 c_int64.1 (by decide) c_int64.2 (by decide) (opens_int Tryz.underlying2)
theorem opens_ty:Opens enc W base sp hd 138 (tyAt W):=by
 intro g off h;have P:=open_parts Tryz.underlying138 h;obtain ⟨x0,h0⟩:=opens_int Tryz.underlying3 _ _ (P 0 _ rfl);obtain ⟨x1,h1⟩:=opens_bool Tryz.underlying4 _ _ (P 1 _ rfl);exact ⟨(x0,x1),h0,h1⟩
theorem opens_tys:Opens enc W base sp hd 22 (fun g a l=>Sli W.heap.size W g a 2 (tyAt W) l):=opens_sli Tryz.underlying22 (by kernel_rfl) (by decide) (bb:=16) (by kernel_rfl) (by decide) opens_ty
theorem opens_dim:Opens enc W base sp hd 201 (dimAt W):=by
 intro g off h;have P:=open_parts Tryz.underlying201 h;obtain ⟨x0,h0⟩:=opens_int Tryz.underlying3 _ _ (P 0 _ rfl);obtain ⟨x1,h1⟩:=opens_int Tryz.underlying3 _ _ (P 1 _ rfl);obtain ⟨x2,h2⟩:=opens_int Tryz.underlying3 _ _ (P 2 _ rfl);exact ⟨⟨x0,x1,x2⟩,h0,h1,h2⟩
theorem opens_dims:Opens enc W base sp hd 140 (fun g a l=>Sli W.heap.size W g a 3 (dimAt W) l):=opens_sli Tryz.underlying140 (by kernel_rfl) (by decide) (bb:=24) (by kernel_rfl) (by decide) opens_dim
theorem opens_var:Opens enc W base sp hd 142 (varAt W.heap.size W):=by
 intro g off h;have P:=open_parts Tryz.underlying142 h;obtain ⟨x0,h0⟩:=opens_int Tryz.underlying3 _ _ (P 0 _ rfl);obtain ⟨x1,h1⟩:=opens_int Tryz.underlying3 _ _ (P 1 _ rfl);obtain ⟨x2,h2⟩:=opens_int Tryz.underlying3 _ _ (P 2 _ rfl);obtain ⟨x3,h3⟩:=opens_int Tryz.underlying3 _ _ (P 3 _ rfl);obtain ⟨x4,h4⟩:=opens_dims _ _ (P 4 _ rfl);exact ⟨⟨x0,x1,x2,x3,x4⟩,h0,h1,h2,h3,h4⟩
theorem opens_expr:Opens enc W base sp hd 144 (exprAt W.heap.size W):=by
 intro g off h;have P:=open_parts Tryz.underlying144 h;obtain ⟨x0,h0⟩:=opens_int Tryz.underlying3 _ _ (P 0 _ rfl);obtain ⟨x1,h1⟩:=opens_int Tryz.underlying2 _ _ (P 1 _ rfl);obtain ⟨x2,h2⟩:=opens_int Tryz.underlying3 _ _ (P 2 _ rfl);obtain ⟨x3,h3⟩:=opens_int Tryz.underlying3 _ _ (P 3 _ rfl);obtain ⟨x4,h4⟩:=opens_int Tryz.underlying3 _ _ (P 4 _ rfl);obtain ⟨x5,h5⟩:=opens_var _ _ (P 5 _ rfl);obtain ⟨x6,h6⟩:=opens_ints _ _ (P 6 _ rfl);obtain ⟨x7,h7⟩:=opens_ints _ _ (P 7 _ rfl);exact ⟨⟨x0,x1,x2,x3,x4,x5,x6,x7⟩,h0,h1,h2,h3,h4,h5,h6,h7⟩
theorem opens_stmt:Opens enc W base sp hd 65 (stmtAt W.heap.size W):=by
 intro g off h;have P:=open_parts Tryz.underlying65 h;obtain ⟨x0,h0⟩:=opens_int Tryz.underlying3 _ _ (P 0 _ rfl);obtain ⟨x1,h1⟩:=opens_int Tryz.underlying3 _ _ (P 1 _ rfl);obtain ⟨x2,h2⟩:=opens_int Tryz.underlying3 _ _ (P 2 _ rfl);obtain ⟨x3,h3⟩:=opens_int Tryz.underlying3 _ _ (P 3 _ rfl);obtain ⟨x4,h4⟩:=opens_ints _ _ (P 4 _ rfl);obtain ⟨x5,h5⟩:=opens_ints _ _ (P 5 _ rfl);obtain ⟨x6,h6⟩:=opens_str Tryz.underlying9 _ _ (P 6 _ rfl);exact ⟨⟨x0,x1,x2,x3,x4,x5,x6⟩,h0,h1,h2,h3,h4,h5,h6⟩
theorem opens_trans:Opens enc W base sp hd 67 (transAt W.heap.size W):=by
 intro g off h;have P:=open_parts Tryz.underlying67 h;obtain ⟨x0,h0⟩:=opens_stmt _ _ (P 0 _ rfl);obtain ⟨x1,h1⟩:=opens_int Tryz.underlying3 _ _ (P 1 _ rfl);obtain ⟨x2,h2⟩:=opens_int Tryz.underlying3 _ _ (P 2 _ rfl);exact ⟨⟨x0,x1,x2⟩,h0,h1,h2⟩
theorem opens_transs:Opens enc W base sp hd 62 (fun g a l=>escAt W.heap.size W g a l):=opens_sli Tryz.underlying62 (by kernel_rfl) (by decide) (bb:=112) (by kernel_rfl) (by decide) opens_trans
theorem opens_escs:Opens enc W base sp hd 68 (fun g a l=>Sli W.heap.size W g a 1 (escAt W.heap.size W) l):=opens_sli Tryz.underlying68 (by kernel_rfl) (by decide) (bb:=24) (by kernel_rfl) (by decide) opens_transs
theorem opens_loc:Opens enc W base sp hd 70 (locAt W.heap.size W):=by
 intro g off h;have P:=open_parts Tryz.underlying70 h;obtain ⟨x0,h0⟩:=opens_transs _ _ (P 0 _ rfl);obtain ⟨x1,h1⟩:=opens_escs _ _ (P 1 _ rfl);obtain ⟨x2,h2⟩:=opens_bool Tryz.underlying4 _ _ (P 2 _ rfl);obtain ⟨x3,h3⟩:=opens_bool Tryz.underlying4 _ _ (P 3 _ rfl);obtain ⟨x4,h4⟩:=opens_bool Tryz.underlying4 _ _ (P 4 _ rfl);obtain ⟨x5,h5⟩:=opens_bool Tryz.underlying4 _ _ (P 5 _ rfl);obtain ⟨x6,h6⟩:=opens_bool Tryz.underlying4 _ _ (P 6 _ rfl);exact ⟨⟨x0,x1,x2,x3,x4,x5,x6⟩,h0,h1,h2,h3,h4,h5,h6⟩
theorem opens_locs:Opens enc W base sp hd 71 (fun g a l=>Sli W.heap.size W g a 7 (locAt W.heap.size W) l):=opens_sli Tryz.underlying71 (by kernel_rfl) (by decide) (bb:=56) (by kernel_rfl) (by decide) opens_loc
theorem opens_proc:Opens enc W base sp hd 73 (procAt W.heap.size W):=by
 intro g off h;have P:=open_parts Tryz.underlying73 h;obtain ⟨x0,h0⟩:=opens_str Tryz.underlying9 _ _ (P 0 _ rfl);obtain ⟨x1,h1⟩:=opens_int Tryz.underlying3 _ _ (P 1 _ rfl);obtain ⟨x2,h2⟩:=opens_tys _ _ (P 2 _ rfl);obtain ⟨x3,h3⟩:=opens_int64s _ _ (P 3 _ rfl);obtain ⟨x4,h4⟩:=opens_locs _ _ (P 4 _ rfl);obtain ⟨x5,h5⟩:=opens_int Tryz.underlying3 _ _ (P 5 _ rfl);obtain ⟨x6,h6⟩:=opens_int Tryz.underlying3 _ _ (P 6 _ rfl);obtain ⟨x7,h7⟩:=opens_int Tryz.underlying3 _ _ (P 7 _ rfl);obtain ⟨x8,h8⟩:=opens_int Tryz.underlying3 _ _ (P 8 _ rfl);obtain ⟨x9,h9⟩:=opens_int Tryz.underlying3 _ _ (P 9 _ rfl);exact ⟨⟨x0,x1,x2,x3,x4,x5,x6,x7,x8,x9⟩,h0,h1,h2,h3,h4,h5,h6,h7,h8,h9⟩
theorem opens_shape:Opens enc W base sp hd 102 (shapeAt W.heap.size W):=by
 intro g off h;have P:=open_parts Tryz.underlying102 h;obtain ⟨x0,h0⟩:=opens_int Tryz.underlying3 _ _ (P 0 _ rfl);obtain ⟨x1,h1⟩:=opens_tys _ _ (P 1 _ rfl);exact ⟨⟨x0,x1⟩,h0,h1⟩
theorem one_cs {l:List Value} {o n:Nat} (h:o < l.length) (hn:n=1): (l.drop o).take n= [l[o]]:=by
 subst hn;rw [List.drop_eq_getElem_cons h];rfl
theorem seven_of {α:Type} {l:List α} (h:l.length=7):∃a b c d e f g,l= [a,b,c,d,e,f,g]:=by
 match l,h with
 | [a,b,c,d,e,f,g],_=>exact ⟨a,b,c,d,e,f,g,rfl⟩
theorem open_model {v:Value} {r:Reach} {b0:Nat} {d:DataW H} {p:List MemPlace} (hv:Value.okWide Tryz.prog W r b0 29 v) (h:DataW.Trod enc Tryz.prog W base sp hd 29 v d p) (hw:Fits 29 d):∃h m,v=mV h m∧MD W.heap.size W h m:=by
 obtain ⟨cs,rfl,hsz⟩:=okWide_struct Tryz.underlying29 hv;obtain ⟨l⟩:=cs;have hC:Tryz.prog.cellsOf 29=7:=by kernel_rfl
 have hl:l.length=7:=hsz.trans hC;obtain ⟨fu,hf⟩:=h;have P:=open_fits Tryz.underlying29 hf hw;obtain ⟨n0,y0,p0,w0⟩:=P 0 _ rfl;obtain ⟨n1,y1,p1,w1⟩:=P 1 _ rfl;obtain ⟨n2,y2,p2,w2⟩:=P 2 _ rfl;obtain ⟨n3,y3,p3,w3⟩:=P 3 _ rfl;obtain ⟨n4,y4,p4,w4⟩:=P 4 _ rfl;obtain ⟨n5,y5,p5,w5⟩:=P 5 _ rfl;obtain ⟨n6,y6,p6,w6⟩:=P 6 _ rfl;clear P;obtain ⟨o0,l0,c0,e0,r0⟩:=open_sli Tryz.underlying22 (kk:=2) (by kernel_rfl) (by decide) (bb:=16) (by kernel_rfl) (by decide) opens_ty p0 w0;obtain ⟨o1,l1,c1,e1,r1⟩:=open_sli Tryz.underlying23 c_int64.1 (by decide) c_int64.2 (by decide) (opens_int Tryz.underlying2) p1 w1;obtain ⟨o2,l2,c2,e2,r2⟩:=open_sli Tryz.underlying24 (kk:=2) (by kernel_rfl) (by decide) (bb:=32) (by kernel_rfl) (by decide) opens_shape p2 w2;obtain ⟨o3,l3,c3,e3,r3⟩:=open_sli Tryz.underlying25 c_int.1 (by decide) c_int.2 (by decide) (opens_int Tryz.underlying3) p3 w3;obtain ⟨o4,l4,c4,e4,r4⟩:=open_sli Tryz.underlying26 (kk:=10) (by kernel_rfl) (by decide) (bb:=136) (by kernel_rfl) (by decide) opens_proc p4 w4;obtain ⟨v5,e5,_,_⟩:=DataW.trod_int Tryz.underlying3 p5;obtain ⟨o6,l6,c6,e6,r6⟩:=open_sli Tryz.underlying27 (kk:=12) (by kernel_rfl) (by decide) (bb:=144) (by kernel_rfl) (by decide) opens_expr p6 w6;have f0:=(one_cs (l:=l) (o:=0) (by omega) (by kernel_rfl)).symm.trans e0;have f1:=(one_cs (l:=l) (o:=1) (by omega) (by kernel_rfl)).symm.trans e1;have f2:=(one_cs (l:=l) (o:=2) (by omega) (by kernel_rfl)).symm.trans e2;have f3:=(one_cs (l:=l) (o:=3) (by omega) (by kernel_rfl)).symm.trans e3;have f4:=(one_cs (l:=l) (o:=4) (by omega) (by kernel_rfl)).symm.trans e4;have f5:=(one_cs (l:=l) (o:=5) (by omega) (by kernel_rfl)).symm.trans e5;have f6:=(one_cs (l:=l) (o:=6) (by omega) (by kernel_rfl)).symm.trans e6;clear e0 e1 e2 e3 e4 e5 e6 p0 p1 p2 p3 p4 p5 p6 w0 w1 w2 w3 w4 w5 w6 hf hw hsz hv;obtain ⟨a0,a1,a2,a3,a4,a5,a6,rfl⟩:=seven_of hl;simp only [List.getElem_cons_zero,List.getElem_cons_succ,List.cons.injEq,and_true] at f0 f1 f2 f3 f4 f5 f6;subst f0 f1 f2 f3 f4 f5 f6;exact ⟨⟨o0,c0,o1,c1,o2,c2,o3,c3,o4,c4,o6,c6⟩,⟨l0,l1,l2,l3,l4,v5,l6⟩,rfl,r0,r1,r2,r3,r4,r6⟩
end Go.Proofs.YthfldokfnjpkmaaGreatDoor
