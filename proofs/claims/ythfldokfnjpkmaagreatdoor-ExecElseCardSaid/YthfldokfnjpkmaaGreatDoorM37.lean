/- The document's statement: which may stand, by itself: the walk. -/
import Derived.Test.YthfldokfnjpkmaaGreatDoorM36
set_option linter.unusedVariables false
set_option linter.unusedSimpArgs false
namespace Go.Proofs.YthfldokfnjpkmaaGreatDoor
open Go.ChangeShapes Go.WideShapes Go.ChangeAt Go.RowKit
def stCells (s:StmtD) (ao mo:Option Addr) (ac mc:Nat):Array Value:=#[.int .i64 s.kind,.int .i64 s.a,.int .i64 s.b,.int .i64 s.n,.slice ao s.args.length ac,.slice mo s.mat.length mc,.string s.text]
structure Sx (w:World) (CS SS:Array Value) (h:MH) (m:ModelD) (W:World):Prop where
 mx:Mx w w.heap.size CS h m W
 sb:Bq w (w.heap.size+1) SS 65 W
theorem Sx.below {w W W':World} {CS SS:Array Value} {h:MH} {m:ModelD} (k:Sx w CS SS h m W) (hb:Below W.heap.size W W'):Sx w CS SS h m W':=⟨k.mx.below hb,k.sb.below hb⟩
theorem Sx.drewN {w W:World} {CS SS:Array Value} {h:MH} {m:ModelD} (k:Sx w CS SS h m W) (n:Nat):Sx w CS SS h m (W.drewN n):=k.below (bdrew (Below.refl _ _) n)
theorem Sx.new {w:World} {CS SS:Array Value} {h:MH} {m:ModelD} (hd:MD w.heap.size w h m) (hC:CS=mCells h m):Sx w CS SS h m ((w.alloc (.cells CS 29)).alloc (.cells SS 65)):=
 ⟨(Mx.new hd hC).below (ball _),new_at (by simp),(Mx.new hd hC).bx.bel.alloc (by simp) _⟩
theorem Mx.target {w W:World} {p:Nat} {CS:Array Value} {h:MH} {m:ModelD} (k:Mx w p CS h m W) (n:Int):Calls Tryz.prog 201 #[.agg CS,.int .i64 n] W fun e w'=>e= .returned (.bool (settableB m n))∧Below W.heap.size W w':=by
 rw [k.eq];exact targetH n W k.here
theorem text_is (t:ByteArray):t.toList.isEmpty=decide (t.size=0):=by
 rw [ByteArray.toList_eq,Bool.eq_iff_iff,List.isEmpty_iff,decide_eq_true_eq];constructor
 · intro h;have h2:=congrArg List.length h;simpa using h2
 · intro h;exact List.eq_nil_of_length_eq_zero (by simpa using h)
set_option maxRecDepth 100000 in
set_option maxHeartbeats 8000000 in
theorem statementH {h:MH} {m:ModelD} (s:StmtD) (ao mo:Option Addr) (ac mc:Nat) (w:World) (hd:MD w.heap.size w h m) (hra:Row w.heap.size ao 1 (intAt w) s.args) (hrm:Row w.heap.size mo 1 (intAt w) s.mat):
 Calls Tryz.prog 184 #[mV h m,.agg (stCells s ao mo ac mc)] w fun e w'=>e= .returned (.bool (dstmtB m s))∧Below w.heap.size w w':=by
 obtain ⟨CS,hCS⟩:∃c,c=mCells h m:=⟨_,rfl⟩;have l6:=hd.exprs.1;have ls:=hd.shapes.1;have la:=hra.1;have lm:=hrm.1;have HRA:=Lib.hid hra;have HRM:=Lib.hid hrm;have HX:=Lib.hid (Sx.new (SS:=stCells s ao mo ac mc) hd hCS);unfold stCells at HX ⊢;unfold mV;rw [←hCS];clear hd hCS hra hrm;go_enter Tryz.func184,Tryz.ntmps184;go_upto_region 1 with fail
 generalize (w.alloc (.cells CS 29)).alloc (.cells #[.int .i64 s.kind,.int .i64 s.a,.int .i64 s.b,.int .i64 s.n,.slice ao s.args.length ac,.slice mo s.mat.length mc,.string s.text] 65)=W1 at HX ⊢;have c6:W1.cell? ⟨w.heap.size,6,none⟩=some (.slice h.eo m.exprs.length h.ec):=HX.out.mx.c6;have f1:W1.cell? ⟨w.heap.size+1,1,none⟩=some (.int .i64 s.a):=HX.out.sb.cell rfl;have f2:W1.cell? ⟨w.heap.size+1,2,none⟩=some (.int .i64 s.b):=HX.out.sb.cell rfl;go_upto_region 2 with fail
 go_cut [6] from 17 to 25 (fun v wx=>v= .bool (isExprB m s.a)∧W1=wx)
 case first=>
  by_cases k1:0≤s.a
  · by_cases k2:s.a < m.exprs.length
    · have HV:Hid (isExprB m s.a=true):=Lib.hid (decide_eq_true ⟨k1,k2⟩);go_wp2_with fail;go_meet;case rel=>exact ⟨by rw [HV.out],rfl⟩
    · have HV:Hid (isExprB m s.a=false):=Lib.hid (decide_eq_false fun h=>k2 h.2);go_wp2_with fail;go_meet;case rel=>exact ⟨by rw [HV.out],rfl⟩
  · have HV:Hid (isExprB m s.a=false):=Lib.hid (decide_eq_false fun h=>k1 h.1);go_wp2_with fail;go_meet;case rel=>exact ⟨by rw [HV.out],rfl⟩
 case rest=>
 obtain ⟨rfl,hwx⟩:=hcut;subst hwx;go_upto_region 3 with fail
 go_cut [7] from 26 to 34 (fun v wx=>v= .bool (isExprB m s.b)∧W1=wx)
 case first=>
  by_cases k1:0≤s.b
  · by_cases k2:s.b < m.exprs.length
    · have HV:Hid (isExprB m s.b=true):=Lib.hid (decide_eq_true ⟨k1,k2⟩);go_wp2_with fail;go_meet;case rel=>exact ⟨by rw [HV.out],rfl⟩
    · have HV:Hid (isExprB m s.b=false):=Lib.hid (decide_eq_false fun h=>k2 h.2);go_wp2_with fail;go_meet;case rel=>exact ⟨by rw [HV.out],rfl⟩
  · have HV:Hid (isExprB m s.b=false):=Lib.hid (decide_eq_false fun h=>k1 h.1);go_wp2_with fail;go_meet;case rel=>exact ⟨by rw [HV.out],rfl⟩
 case rest=>
 obtain ⟨rfl,hwx⟩:=hcut;subst hwx;clear c6 f2;go_wp2_with (refine wpList_load_row rfl _ _ rfl _ rfl _ CS _ _ HX.out.mx.bx.box Tryz.underlying29 rfl HX.out.mx.info ?_);refine (HX.out.mx.target s.a).mono ?_;rintro e W2 ⟨rfl,hb2⟩;have HX2:=Lib.hid (HX.out.below hb2);clear hb2 f1 HX;have f4:W2.cell? ⟨w.heap.size+1,4,none⟩=some (.slice ao s.args.length ac):=HX2.out.sb.cell rfl;have HRA2:=Lib.hid (HRA.out.mono fun _ _ _ hg=>intAt.below HX2.out.sb.bel hg);go_wp2_with fail;refine (belowH m.exprs.length s.args ao ac W2 HRA2.out).mono ?_;rintro e w' ⟨rfl,rfl⟩;rw [below_exprs];have f5:W2.cell? ⟨w.heap.size+1,5,none⟩=some (.slice mo s.mat.length mc):=HX2.out.sb.cell rfl;go_upto_region 6 with fail
 go_cut [10] from 43 to 52 (fun v wx=>v= .bool (plainB s)∧W2=wx)
 case first=>
  obtain ⟨qa,hqa⟩:∃q,((s.args.length:Int) == 0)=q:=⟨_,rfl⟩;obtain ⟨qm,hqm⟩:∃q,((s.mat.length:Int) == 0)=q:=⟨_,rfl⟩;have HV:Hid (plainB s= (qa && qm)):=Lib.hid (by
   unfold plainB;rw [←hqa,←hqm];congr 1 <;> (rw [Bool.eq_iff_iff,decide_eq_true_eq,beq_iff_eq];omega))
  cases qa
  · go_wp2_with fail;go_meet;case rel=>exact ⟨by rw [HV.out];rfl,rfl⟩
  · go_wp2_with fail;go_meet;case rel=>exact ⟨by rw [HV.out];rfl,rfl⟩
 case rest=>
 obtain ⟨rfl,hwx⟩:=hcut;subst hwx;have f0:W2.cell? ⟨w.heap.size+1,0,none⟩=some (.int .i64 s.kind):=HX2.out.sb.cell rfl;have f1:W2.cell? ⟨w.heap.size+1,1,none⟩=some (.int .i64 s.a):=HX2.out.sb.cell rfl;have f2:W2.cell? ⟨w.heap.size+1,2,none⟩=some (.int .i64 s.b):=HX2.out.sb.cell rfl;have f3:W2.cell? ⟨w.heap.size+1,3,none⟩=some (.int .i64 s.n):=HX2.out.sb.cell rfl;have f6:W2.cell? ⟨w.heap.size+1,6,none⟩=some (.string s.text):=HX2.out.sb.cell rfl;have c2:W2.cell? ⟨w.heap.size,2,none⟩=some (.slice h.so m.shapes.length h.sc):=HX2.out.mx.c2;obtain ⟨va,hva⟩:∃q,isExprB m s.a=q:=⟨_,rfl⟩;obtain ⟨vb,hvb⟩:∃q,isExprB m s.b=q:=⟨_,rfl⟩;obtain ⟨vs,hvs⟩:∃q,settableB m s.a=q:=⟨_,rfl⟩;obtain ⟨vl,hvl⟩:∃q,s.args.all (isExprB m)=q:=⟨_,rfl⟩;obtain ⟨vp,hvp⟩:∃q,plainB s=q:=⟨_,rfl⟩;rw [hva,hvb,hvs,hvl,hvp];have HB:=Lib.hid (And.intro hva (And.intro hvb (And.intro hvs (And.intro hvl hvp))));clear hva hvb hvs hvl hvp;obtain ⟨ea,hea⟩:∃q,(s.a == -1)=q:=⟨_,rfl⟩;obtain ⟨eb,heb⟩:∃q,(s.b == -1)=q:=⟨_,rfl⟩;obtain ⟨en,hen⟩:∃q,(s.n == 0)=q:=⟨_,rfl⟩;obtain ⟨tx,htx⟩:∃q,s.text.toList.isEmpty=q:=⟨_,rfl⟩;have HTX:Hid (noText s=tx):=Lib.hid ((text_is s.text).symm.trans htx);have HE:=Lib.hid (And.intro hea (And.intro heb hen));obtain ⟨K,hK⟩:∃k,s.kind=k:=⟨_,rfl⟩;rw [hK] at f0;have HK:=Lib.hid hK;clear hK;by_cases k1:K=1
 · subst k1;have HV:Hid (dstmtB m s= (va && eb && vp && en && tx)):=Lib.hid (by unfold dstmtB;rw [HK.out];simp only [HB.out.1,HB.out.2.1,HB.out.2.2.1,HB.out.2.2.2.1,HB.out.2.2.2.2,HE.out.1,HE.out.2.1,HE.out.2.2,HTX.out];rfl);cases va
   · go_wp2_with fail;go_ret;exact ⟨retB (by rw [HV.out];rfl),HX2.out.sb.bel⟩
   cases eb
   · go_wp2_with fail;go_ret;exact ⟨retB (by rw [HV.out];rfl),HX2.out.sb.bel⟩
   cases vp
   · go_wp2_with fail;go_ret;exact ⟨retB (by rw [HV.out];rfl),HX2.out.sb.bel⟩
   cases en
   · go_wp2_with fail;go_ret;exact ⟨retB (by rw [HV.out];rfl),HX2.out.sb.bel⟩
   go_wp2_with fail;go_ret;exact ⟨retB (by rw [HV.out];rfl),HX2.out.sb.bel⟩
 have d1: (K == 1)=false:=by simp [k1]
 by_cases k3:K=3
 · subst k3;have HV:Hid (dstmtB m s= (va && eb && vp && en && tx)):=Lib.hid (by unfold dstmtB;rw [HK.out];simp only [HB.out.1,HB.out.2.1,HB.out.2.2.1,HB.out.2.2.2.1,HB.out.2.2.2.2,HE.out.1,HE.out.2.1,HE.out.2.2,HTX.out];rfl);cases va
   · go_wp2_with fail;go_ret;exact ⟨retB (by rw [HV.out];rfl),HX2.out.sb.bel⟩
   cases eb
   · go_wp2_with fail;go_ret;exact ⟨retB (by rw [HV.out];rfl),HX2.out.sb.bel⟩
   cases vp
   · go_wp2_with fail;go_ret;exact ⟨retB (by rw [HV.out];rfl),HX2.out.sb.bel⟩
   cases en
   · go_wp2_with fail;go_ret;exact ⟨retB (by rw [HV.out];rfl),HX2.out.sb.bel⟩
   go_wp2_with fail;go_ret;exact ⟨retB (by rw [HV.out];rfl),HX2.out.sb.bel⟩
 have d3: (K == 3)=false:=by simp [k3]
 by_cases k2:K=2
 · subst k2;have HV:Hid (dstmtB m s= (vs && vb && vp && en && tx)):=Lib.hid (by unfold dstmtB;rw [HK.out];simp only [HB.out.1,HB.out.2.1,HB.out.2.2.1,HB.out.2.2.2.1,HB.out.2.2.2.2,HE.out.1,HE.out.2.1,HE.out.2.2,HTX.out];rfl);cases vs
   · go_wp2_with fail;go_ret;exact ⟨retB (by rw [HV.out];rfl),HX2.out.sb.bel⟩
   cases vb
   · go_wp2_with fail;go_ret;exact ⟨retB (by rw [HV.out];rfl),HX2.out.sb.bel⟩
   cases vp
   · go_wp2_with fail;go_ret;exact ⟨retB (by rw [HV.out];rfl),HX2.out.sb.bel⟩
   cases en
   · go_wp2_with fail;go_ret;exact ⟨retB (by rw [HV.out];rfl),HX2.out.sb.bel⟩
   go_wp2_with fail;go_ret;exact ⟨retB (by rw [HV.out];rfl),HX2.out.sb.bel⟩
 have d2: (K == 2)=false:=by simp [k2]
 by_cases k4:K=4
 · subst k4;obtain ⟨q0,hq0⟩:∃q,((s.mat.length:Int) == 0)=q:=⟨_,rfl⟩;obtain ⟨q1,hq1⟩:∃q,decide ((s.text.size:Int)≤256)=q:=⟨_,rfl⟩;have z0:decide (s.mat.length=0)=q0:=by rw [←hq0,Bool.eq_iff_iff,decide_eq_true_eq,beq_iff_eq];omega
   have z1:decide (s.text.size≤256)=q1:=by rw [←hq1,Bool.eq_iff_iff,decide_eq_true_eq,decide_eq_true_eq];omega
   have HQ:=Lib.hid (And.intro z0 z1);clear z0 z1;have HV:Hid (dstmtB m s= (ea && eb && vl && q0 && en && q1)):=Lib.hid (by unfold dstmtB;rw [HK.out];simp only [HB.out.1,HB.out.2.1,HB.out.2.2.1,HB.out.2.2.2.1,HB.out.2.2.2.2,HE.out.1,HE.out.2.1,HE.out.2.2,HTX.out,HQ.out.1,HQ.out.2];rfl);cases ea
   · go_wp2_with fail;go_ret;exact ⟨retB (by rw [HV.out];rfl),HX2.out.sb.bel⟩
   cases eb
   · go_wp2_with fail;go_ret;exact ⟨retB (by rw [HV.out];rfl),HX2.out.sb.bel⟩
   cases vl
   · go_wp2_with fail;go_ret;exact ⟨retB (by rw [HV.out];rfl),HX2.out.sb.bel⟩
   cases q0
   · go_wp2_with fail;go_ret;exact ⟨retB (by rw [HV.out];rfl),HX2.out.sb.bel⟩
   cases en
   · go_wp2_with fail;go_ret;exact ⟨retB (by rw [HV.out];rfl),HX2.out.sb.bel⟩
   go_wp2_with fail;go_ret;exact ⟨retB (by rw [HV.out];rfl),HX2.out.sb.bel⟩
 have d4: (K == 4)=false:=by simp [k4]
 by_cases k5:K=5
 · subst k5;obtain ⟨q0,hq0⟩:∃q,((s.mat.length:Int) == 0)=q:=⟨_,rfl⟩;obtain ⟨q1,hq1⟩:∃q,decide (1≤ (s.args.length:Int))=q:=⟨_,rfl⟩;obtain ⟨q2,hq2⟩:∃q,decide ((s.args.length:Int)≤8)=q:=⟨_,rfl⟩;obtain ⟨q3,hq3⟩:∃q,(s.n == 1)=q:=⟨_,rfl⟩;have z0:decide (s.mat.length=0)=q0:=by rw [←hq0,Bool.eq_iff_iff,decide_eq_true_eq,beq_iff_eq];omega
   have z1:decide (1≤s.args.length)=q1:=by rw [←hq1,Bool.eq_iff_iff,decide_eq_true_eq,decide_eq_true_eq];omega
   have z2:decide (s.args.length≤8)=q2:=by rw [←hq2,Bool.eq_iff_iff,decide_eq_true_eq,decide_eq_true_eq];omega
   have HQ:=Lib.hid (And.intro z0 (And.intro z1 (And.intro z2 hq3)));clear z0 z1 z2;have HV:Hid (dstmtB m s= (va && eb && vl && q1 && q2 && q0 && (en || q3) && tx)):=Lib.hid (by unfold dstmtB;rw [HK.out];simp only [HB.out.1,HB.out.2.1,HB.out.2.2.1,HB.out.2.2.2.1,HB.out.2.2.2.2,HE.out.1,HE.out.2.1,HE.out.2.2,HTX.out,HQ.out.1,HQ.out.2.1,HQ.out.2.2.1,HQ.out.2.2.2];rfl);cases va
   · go_wp2_with fail;go_ret;exact ⟨retB (by rw [HV.out];rfl),HX2.out.sb.bel⟩
   cases eb
   · go_wp2_with fail;go_ret;exact ⟨retB (by rw [HV.out];rfl),HX2.out.sb.bel⟩
   cases vl
   · go_wp2_with fail;go_ret;exact ⟨retB (by rw [HV.out];rfl),HX2.out.sb.bel⟩
   cases q1
   · go_wp2_with fail;go_ret;exact ⟨retB (by rw [HV.out];rfl),HX2.out.sb.bel⟩
   cases q2
   · go_wp2_with fail;go_ret;exact ⟨retB (by rw [HV.out];rfl),HX2.out.sb.bel⟩
   cases q0
   · go_wp2_with fail;go_ret;exact ⟨retB (by rw [HV.out];rfl),HX2.out.sb.bel⟩
   cases en
   · cases q3
     · go_wp2_with fail;go_ret;exact ⟨retB (by rw [HV.out];rfl),HX2.out.sb.bel⟩
     · go_wp2_with fail;go_ret;exact ⟨retB (by rw [HV.out];rfl),HX2.out.sb.bel⟩
   · go_wp2_with fail;go_ret;exact ⟨retB (by rw [HV.out];rfl),HX2.out.sb.bel⟩
 have d5: (K == 5)=false:=by simp [k5]
 by_cases k6:K=6
 · subst k6;have HM1:=Lib.hid (HX2.out.mx.matched m.exprs.length s.args s.mat ao mo ac mc (Int.le_refl _) HRA.out HRM.out);go_wp2_with (refine wpList_load_row rfl _ _ rfl _ rfl _ CS _ _ HX2.out.mx.bx.box Tryz.underlying29 rfl HX2.out.mx.info ?_);refine HM1.out.mono ?_;rintro e W3 ⟨rfl,hb3⟩;have HX3:=Lib.hid (HX2.out.below hb3);clear hb3 f0 f1 f2 f3 f4 f5 f6 c2 HM1 d1 d2 d3 d4 d5 k1 k2 k3 k4 k5;obtain ⟨u,hu⟩:∃q,dmatB m m.exprs.length s.args s.mat=q:=⟨_,rfl⟩;obtain ⟨q1,hq1⟩:∃q,decide (0≤s.n)=q:=⟨_,rfl⟩;obtain ⟨q2,hq2⟩:∃q,decide (s.n≤3)=q:=⟨_,rfl⟩;have HU:=Lib.hid hu;have HQ:=Lib.hid (And.intro hq1 hq2);have HV:Hid (dstmtB m s= (va && eb && u && q1 && q2 && tx && (s.args.zip s.mat).all (recvB m))):=Lib.hid (by unfold dstmtB;rw [HK.out];simp only [HB.out.1,HB.out.2.1,HB.out.2.2.1,HB.out.2.2.2.1,HB.out.2.2.2.2,HE.out.1,HE.out.2.1,HE.out.2.2,HTX.out,HU.out,HQ.out.1,HQ.out.2];rfl);rw [hu];clear hu;have f2:W3.cell? ⟨w.heap.size+1,2,none⟩=some (.int .i64 s.b):=HX3.out.sb.cell rfl;have f3:W3.cell? ⟨w.heap.size+1,3,none⟩=some (.int .i64 s.n):=HX3.out.sb.cell rfl;have f6:W3.cell? ⟨w.heap.size+1,6,none⟩=some (.string s.text):=HX3.out.sb.cell rfl;go_upto_region 19 with fail
   go_cut [204] from 179 to 204 (fun v wx=>v= .bool (!(va && eb && u && q1 && q2 && tx))∧W3=wx)
   case first=>
    have heb2: (s.b != -1)= !eb:=by rw [←HE.out.2.1];rfl
    have hq3:decide (s.n < 0)= !q1:=by rw [←HQ.out.1,Bool.eq_iff_iff];simp
    have hq4:decide (3 < s.n)= !q2:=by rw [←HQ.out.2,Bool.eq_iff_iff];simp
    cases va
    · go_wp2_with fail;go_meet;case rel=>exact ⟨rfl,rfl⟩
    cases eb
    · go_wp2_with fail;go_meet;case rel=>exact ⟨rfl,rfl⟩
    cases u
    · go_wp2_with fail;go_meet;case rel=>exact ⟨rfl,rfl⟩
    cases q1
    · go_wp2_with fail;go_meet;case rel=>exact ⟨rfl,rfl⟩
    cases q2
    · go_wp2_with fail;go_meet;case rel=>exact ⟨rfl,rfl⟩
    cases tx
    · go_wp2_with fail;go_meet;case rel=>exact ⟨rfl,rfl⟩
    · go_wp2_with fail;go_meet;case rel=>exact ⟨rfl,rfl⟩
   case rest=>
   obtain ⟨rfl,hwx⟩:=hcut;subst hwx;cases hall: (va && eb && u && q1 && q2 && tx)
   · have HZ:Hid (dstmtB m s=false):=Lib.hid (by rw [HV.out,hall];rfl);go_wp2_with fail;go_ret;exact ⟨retB HZ.out.symm,HX3.out.sb.bel⟩
   have HV2:Hid (dstmtB m s= (s.args.zip s.mat).all (recvB m)):=Lib.hid (by rw [HV.out,hall];rfl);have HLL:Hid (s.mat.length=s.args.length):=Lib.hid (by
    simp only [Bool.and_eq_true] at hall;have h1:=HU.out;rw [hall.1.1.1.2] at h1;unfold dmatB at h1;simp only [Bool.and_eq_true,decide_eq_true_eq] at h1;exact h1.1.2.2.2)
   clear hall f2 f3 f6 HV HE HB HTX HQ hea heb hen htx hq1 hq2
   try simp only [Bool.not_true]
   go_wp2_with fail
   go_loopw [12] (fun jv wr=>∃k:Nat,jv= .int .i64 k∧k≤s.args.length∧Hid (∀j (hj:j < (s.args.zip s.mat).length),j < k→recvB m (s.args.zip s.mat)[j]=true)∧Hid (Sx w CS #[.int .i64 s.kind,.int .i64 s.a,.int .i64 s.b,.int .i64 s.n,.slice ao s.args.length ac,.slice mo s.mat.length mc,.string s.text] h m wr)) (fun jv _=>s.args.length - (intOf jv).toNat)
   case atStart=>exact ⟨0,rfl,by omega,Lib.hid fun j _ h=>by omega,HX3⟩
   case round=>
    clear HX3;obtain ⟨k,rfl,hk,HD,HX⟩:=hrel;have hk0: (0:Int)≤k:=by omega
    have hk00:0≤k:=by omega
    have f4:wr.cell? ⟨w.heap.size+1,4,none⟩=some (.slice ao s.args.length ac):=HX.out.sb.cell rfl;by_cases hlt:k < s.args.length
    · have hlti: (k:Int) < s.args.length:=by omega
      have hltm:k < s.mat.length:=by have:=HLL.out;omega
      have hltmi: (k:Int) < s.mat.length:=by omega
      obtain ⟨ga,offa,hoa,hga,ea9⟩:=HRA.out.cell hlt;obtain ⟨gm,offm,hom,hgm,em9⟩:=HRM.out.cell hltm;obtain ⟨hz,hzip⟩:=zip_getH hlt hltm;obtain ⟨a,ha⟩:∃a,s.args[k]=a:=⟨_,rfl⟩;obtain ⟨q,hq⟩:∃q,s.mat[k]=q:=⟨_,rfl⟩;rw [ha,hq] at hzip;have ca:wr.cell? ⟨ga,offa+k,none⟩=some (.int .i64 a):=by
       have:=(HX.out.sb.bel.cell (p:=⟨ga,offa+k*1,none⟩) hga).trans ea9;rw [Nat.mul_one,ha] at this;exact this
      have HCM:Hid (∀W,Below w.heap.size w W→W.cell? ⟨gm,offm+k,none⟩=some (.int .i64 q)):=Lib.hid fun W hb=>by
       have:=(hb.cell (p:=⟨gm,offm+k*1,none⟩) hgm).trans em9;rw [Nat.mul_one,hq] at this;exact this
      have HBAD:Hid (recvB m (a,q)=false→dstmtB m s=false):=Lib.hid fun h=>by rw [HV2.out,all_bad hz (by rw [hzip];exact h)]
      have HGO:Hid (recvB m (a,q)=true→∀j (hj:j < (s.args.zip s.mat).length),j < k+1→recvB m (s.args.zip s.mat)[j]=true):=Lib.hid fun h j hj hjk=>by
       by_cases e:j=k
       · subst e;rw [hzip];exact h
       · exact HD.out j hj (by omega)
      have HOM:=Lib.hid hom;rw [hoa] at f4;have m0:=HX.out.mx.c0;have m1:=HX.out.mx.c1;have m2:=HX.out.mx.c2;have m3:=HX.out.mx.c3;have m4:=HX.out.mx.c4;have m5:=HX.out.mx.c5;have m6:=HX.out.mx.c6;have HTG:Hid (∀W,Below wr.heap.size wr W→Calls Tryz.prog 201 #[.agg #[.slice h.go m.globals.length h.gc,.slice h.io m.init.length h.ic,.slice h.so m.shapes.length h.sc,.slice h.co m.chans.length h.cc,.slice h.po m.procs.length h.pc,.int .i64 m.claim,.slice h.eo m.exprs.length h.ec],.int .i64 a] W fun e w'=>e= .returned (.bool (settableB m a))∧Below W.heap.size W w'):=Lib.hid fun W hb=>targetH a W (HX.out.below hb).mx.here
      clear ea9 em9 ha hq hz hzip hga hgm hom hoa;go_wp2_with fail;go_still_tail 6,(by kernel_rfl);change wpList _ _ _ _ _ wr.drew;have HWD:=Lib.hid (HX.out.below (Below.refl _ _).drew);have HTG2:=Lib.hid (HTG.out wr.drew (Below.refl _ _).drew);generalize wr.drew=W5 at HWD HTG2 ⊢;clear m0 m1 m2 m3 m4 m5 m6 f4 ca HTG;go_wp2_with fail;refine HTG2.out.mono ?_;rintro e W6 ⟨rfl,hb6⟩;have HX6:=Lib.hid (HWD.out.below hb6);clear hb6 HWD HTG2;have f5:W6.cell? ⟨w.heap.size+1,5,none⟩=some (.slice mo s.mat.length mc):=HX6.out.sb.cell rfl;rw [HOM.out] at f5;have cm:=HCM.out W6 HX6.out.sb.bel;obtain ⟨t,ht⟩:∃t,settableB m a=t:=⟨_,rfl⟩;have HRC:Hid (recvB m (a,q)= (!(decide (q=0)) || t)):=Lib.hid (by unfold recvB;rw [ht]);rw [ht];clear ht HOM HCM;by_cases hq0:q=0
      · have b0: (q == 0)=true:=by simp [hq0]
        have HR2:Hid (recvB m (a,q)=t):=Lib.hid (by rw [HRC.out,decide_eq_true hq0];rfl);clear hq0 HRC;cases t
        · have HZ:=Lib.hid (HBAD.out HR2.out);go_wp2_with fail;go_ret;exact ⟨retB HZ.out.symm,HX6.out.sb.bel⟩
        · have HZ:=Lib.hid (HGO.out HR2.out);go_wp2_with fail;go_roundw;case rel=>exact ⟨k+1,by go_num,by omega,HZ,HX6⟩
          case measure=>simp [intOf];omega
      · have b0: (q == 0)=false:=by simp [hq0]
        have HZ:=Lib.hid (HGO.out (by rw [HRC.out,decide_eq_false hq0];rfl));clear hq0 HRC;go_wp2_with fail;go_roundw;case rel=>exact ⟨k+1,by go_num,by omega,HZ,HX6⟩
        case measure=>simp [intOf];omega
    · have hlti:¬ (k:Int) < s.args.length:=by omega
      have HZ:Hid (dstmtB m s=true):=Lib.hid (by rw [HV2.out];exact all_of fun j hj=>HD.out j hj (by rw [List.length_zip] at hj;omega));go_wp2_with fail;go_ret;exact ⟨retB HZ.out.symm,HX.out.sb.bel⟩
 have d6: (K == 6)=false:=by simp [k6]
 by_cases k7:K=7
 · subst k7;have HV:Hid (dstmtB m s= (ea && eb && vp && en && tx)):=Lib.hid (by unfold dstmtB;rw [HK.out];simp only [HB.out.1,HB.out.2.1,HB.out.2.2.1,HB.out.2.2.2.1,HB.out.2.2.2.2,HE.out.1,HE.out.2.1,HE.out.2.2,HTX.out];rfl);cases ea
   · go_wp2_with fail;go_ret;exact ⟨retB (by rw [HV.out];rfl),HX2.out.sb.bel⟩
   cases eb
   · go_wp2_with fail;go_ret;exact ⟨retB (by rw [HV.out];rfl),HX2.out.sb.bel⟩
   cases vp
   · go_wp2_with fail;go_ret;exact ⟨retB (by rw [HV.out];rfl),HX2.out.sb.bel⟩
   cases en
   · go_wp2_with fail;go_ret;exact ⟨retB (by rw [HV.out];rfl),HX2.out.sb.bel⟩
   go_wp2_with fail;go_ret;exact ⟨retB (by rw [HV.out];rfl),HX2.out.sb.bel⟩
 have d7: (K == 7)=false:=by simp [k7]
 by_cases k8:K=8
 · subst k8;have HV:Hid (dstmtB m s= (ea && eb && vp && en && tx)):=Lib.hid (by unfold dstmtB;rw [HK.out];simp only [HB.out.1,HB.out.2.1,HB.out.2.2.1,HB.out.2.2.2.1,HB.out.2.2.2.2,HE.out.1,HE.out.2.1,HE.out.2.2,HTX.out];rfl);cases ea
   · go_wp2_with fail;go_ret;exact ⟨retB (by rw [HV.out];rfl),HX2.out.sb.bel⟩
   cases eb
   · go_wp2_with fail;go_ret;exact ⟨retB (by rw [HV.out];rfl),HX2.out.sb.bel⟩
   cases vp
   · go_wp2_with fail;go_ret;exact ⟨retB (by rw [HV.out];rfl),HX2.out.sb.bel⟩
   cases en
   · go_wp2_with fail;go_ret;exact ⟨retB (by rw [HV.out];rfl),HX2.out.sb.bel⟩
   go_wp2_with fail;go_ret;exact ⟨retB (by rw [HV.out];rfl),HX2.out.sb.bel⟩
 have d8: (K == 8)=false:=by simp [k8]
 by_cases k9:K=9
 · subst k9;obtain ⟨q1,hq1⟩:∃q,decide (0≤s.n)=q:=⟨_,rfl⟩;obtain ⟨q2,hq2⟩:∃q,decide (s.n < (m.shapes.length:Int))=q:=⟨_,rfl⟩;have HQ:=Lib.hid (And.intro hq1 hq2);have HV:Hid (dstmtB m s= (vs && eb && vp && q1 && q2 && tx)):=Lib.hid (by unfold dstmtB;rw [HK.out];simp only [HB.out.1,HB.out.2.1,HB.out.2.2.1,HB.out.2.2.2.1,HB.out.2.2.2.2,HE.out.1,HE.out.2.1,HE.out.2.2,HTX.out,HQ.out.1,HQ.out.2];rfl);cases vs
   · go_wp2_with fail;go_ret;exact ⟨retB (by rw [HV.out];rfl),HX2.out.sb.bel⟩
   cases eb
   · go_wp2_with fail;go_ret;exact ⟨retB (by rw [HV.out];rfl),HX2.out.sb.bel⟩
   cases vp
   · go_wp2_with fail;go_ret;exact ⟨retB (by rw [HV.out];rfl),HX2.out.sb.bel⟩
   cases q1
   · go_wp2_with fail;go_ret;exact ⟨retB (by rw [HV.out];rfl),HX2.out.sb.bel⟩
   cases q2
   · go_wp2_with fail;go_ret;exact ⟨retB (by rw [HV.out];rfl),HX2.out.sb.bel⟩
   go_wp2_with fail;go_ret;exact ⟨retB (by rw [HV.out];rfl),HX2.out.sb.bel⟩
 have d9: (K == 9)=false:=by simp [k9]
 have HV:Hid (dstmtB m s=false):=Lib.hid (by unfold dstmtB;rw [HK.out,if_neg (by omega),if_neg k2,if_neg k4,if_neg k5,if_neg k6,if_neg (by omega),if_neg k9]);go_wp2_with fail;go_ret;exact ⟨retB HV.out.symm,HX2.out.sb.bel⟩
end Go.Proofs.YthfldokfnjpkmaaGreatDoor
