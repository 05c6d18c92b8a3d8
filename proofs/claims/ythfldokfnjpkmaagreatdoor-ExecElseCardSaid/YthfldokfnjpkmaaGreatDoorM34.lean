/- The document's numbers of types, in a state. -/
import Derived.Test.YthfldokfnjpkmaaGreatDoorM25
import Derived.Test.YthfldokfnjpkmaaGreatDoorM01
import Derived.Test.YthfldokfnjpkmaaGreatDoorM27
import Derived.Test.YthfldokfnjpkmaaGreatDoorM03
set_option linter.unusedVariables false
set_option linter.unusedSimpArgs false
namespace Go.Proofs.YthfldokfnjpkmaaGreatDoor
open Go.ChangeShapes Go.WideShapes Go.ChangeAt Go.RowKit
set_option maxRecDepth 100000 in
set_option maxHeartbeats 1000000 in
theorem typed12H {B:Nat} (t:List (Int × Bool)) (v:List Int) (o1 o2:Option Addr) (c1 c2:Nat) (w:World) (hB:B≤w.heap.size) (h1:Row B o1 2 (tyAt w) t) (h2:Row B o2 1 (intAt w) v)
 :
 Calls Tryz.prog 36 #[.slice o1 t.length c1,.slice o2 v.length c2] w fun e w'=>e= .returned (.bool (fitsL t v))∧Below w.heap.size w w':=by
 have H1:=Lib.hid h1;have H2:=Lib.hid h2;have HBB:=Lib.hid hB;have n1:=h1.1;have n2:=h2.1;have HB0:Hid (Below w.heap.size w w):=Lib.hid (Below.refl _ _);clear h1 h2 hB;by_cases hl:v.length=t.length;rotate_left
 · have hne: ((t.length:Int) != (v.length:Int))=true:=by rw [bne_iff_ne];omega
   have HZ:Hid (fitsL t v=false):=Lib.hid (by unfold fitsL;rw [decide_eq_false hl];rfl);clear hl;go_enter Tryz.func36,Tryz.ntmps36;go_wp2_with fail;go_ret;exact ⟨retB HZ.out.symm,HB0.out⟩
 have HL:=Lib.hid hl;have hne: ((t.length:Int) != (v.length:Int))=false:=by rw [bne_eq_false_iff_eq];omega
 have HV:Hid (fitsL t v= (t.zip v).all fitZ):=Lib.hid (by unfold fitsL;rw [decide_eq_true hl];rfl);clear hl;go_enter Tryz.func36,Tryz.ntmps36;go_wp2_with fail
 go_loopw [5] (fun i wr=>∃k:Nat,i= .int .i64 k∧k≤t.length∧Hid (∀j (hj:j < (t.zip v).length),j < k→fitZ (t.zip v)[j]=true)∧Hid (Below w.heap.size w wr)) (fun i _=>t.length - (intOf i).toNat)
 case atStart=>exact ⟨0,rfl,by omega,Lib.hid fun j _ h=>by omega,HB0⟩
 case round=>
  clear HB0;obtain ⟨k,rfl,hk,HJ,HB⟩:=hrel;have hk0: (0:Int)≤k:=by omega
  by_cases hlt:k < t.length
  · have hlti: (k:Int) < t.length:=by omega
    have hlt2:k < v.length:=by have:=HL.out;omega
    have hlti2: (k:Int) < v.length:=by omega
    obtain ⟨g,off,hog,hg,t0,t1⟩:=(H1.out.mono fun _ _ _ hg=>tyAt.below (HB.out.mono HBB.out) hg).cell hlt;obtain ⟨g2,off2,hog2,hg2,e2⟩:=(H2.out.mono fun _ _ _ hg=>intAt.below (HB.out.mono HBB.out) hg).cell hlt2;subst hog hog2;obtain ⟨hz,hzip⟩:=zip_getH hlt hlt2;obtain ⟨⟨b,sg⟩,hbs⟩:∃x,t[k]=x:=⟨_,rfl⟩;obtain ⟨x,hx⟩:∃x,v[k]=x:=⟨_,rfl⟩;rw [hbs] at t0 t1 hzip;rw [hx] at hzip;have HBAD:Hid (fitB b sg x=false→fitsL t v=false):=Lib.hid fun h=>by rw [HV.out,all_bad hz (by rw [hzip];exact h)]
    have HGO:Hid (fitB b sg x=true→∀j (hj:j < (t.zip v).length),j < k+1→fitZ (t.zip v)[j]=true):=Lib.hid fun h j hj hjk=>by
     by_cases e:j=k
     · subst e;rw [hzip];exact h
     · exact HJ.out j hj (by omega)
    have e3:wr.cell? ⟨g2,off2+k,none⟩=some (.int .i64 x):=by
     have:=e2;unfold intAt at this;rw [Nat.mul_one,hx] at this;exact this
    simp only at t0 t1;clear hbs hx e2 hz hzip hg hg2;go_wp2_with fail;go_still_tail 8,(by kernel_rfl);change wpList _ _ _ _ _ wr.drew;have HWD:Hid (Below w.heap.size w wr.drew):=Lib.hid HB.out.drew;generalize wr.drew=W2 at HWD ⊢;clear t0 t1 e3;go_wp2_with fail;refine (fitsH b sg x W2).mono ?_;rintro e W3 ⟨rfl,hb3⟩;have HW3:=Lib.hid (HWD.out.trans (hb3.mono HWD.out.size));clear hb3;obtain ⟨u,hu⟩:∃u,fitB b sg x=u:=⟨_,rfl⟩;rw [hu];have HU:=Lib.hid hu;clear hu;cases u
    · have HZ:=Lib.hid (HBAD.out HU.out);go_wp2_with fail;go_ret;exact ⟨retB HZ.out.symm,HW3.out⟩
    · have HZ:=Lib.hid (HGO.out HU.out);go_wp2_with fail;go_roundw;case rel=>exact ⟨k+1,by go_num,by omega,HZ,HW3⟩
      case measure=>simp [intOf];omega
  · have hlti:¬ (k:Int) < t.length:=by omega
    have HZ:Hid (fitsL t v=true):=Lib.hid (by rw [HV.out];exact all_of fun j hj=>HJ.out j hj (by rw [List.length_zip] at hj;omega));go_wp2_with fail;go_ret;exact ⟨retB HZ.out.symm,HB.out⟩
end Go.Proofs.YthfldokfnjpkmaaGreatDoor
namespace Go.Proofs.YthfldokfnjpkmaaGreatDoor
open Go.ChangeShapes Go.WideShapes Go.ChangeAt Go.RowKit
def xCells (x:ExprD) (vo ao mo:Option Addr) (vc ac mc:Nat):Array Value:=#[.int .i64 x.op,.int .i64 x.n,.int .i64 x.a,.int .i64 x.b,.int .i64 x.c,.int .i64 x.v.scope,.int .i64 x.v.slot,.int .i64 x.v.who,.int .i64 x.v.type,.slice vo x.v.dims.length vc,.slice ao x.args.length ac,.slice mo x.mat.length mc]
structure Ex (w:World) (CS XS:Array Value) (h:MH) (m:ModelD) (W:World):Prop where
 mx:Mx w w.heap.size CS h m W
 xb:Bq w (w.heap.size+1) XS 144 W
theorem Ex.below {w W W':World} {CS XS:Array Value} {h:MH} {m:ModelD} (k:Ex w CS XS h m W) (hb:Below W.heap.size W W'):Ex w CS XS h m W':=⟨k.mx.below hb,k.xb.below hb⟩
theorem Ex.drewN {w W:World} {CS XS:Array Value} {h:MH} {m:ModelD} (k:Ex w CS XS h m W) (n:Nat):Ex w CS XS h m (W.drewN n):=k.below (bdrew (Below.refl _ _) n)
theorem Ex.new {w:World} {CS XS:Array Value} {h:MH} {m:ModelD} (hd:MD w.heap.size w h m) (hC:CS=mCells h m):Ex w CS XS h m ((w.alloc (.cells CS 29)).alloc (.cells XS 144)):=
 ⟨(Mx.new hd hC).below (ball _),new_at (by simp),(Mx.new hd hC).bx.bel.alloc (by simp) _⟩
theorem Mx.variable {w W:World} {p:Nat} {CS:Array Value} {h:MH} {m:ModelD} (k:Mx w p CS h m W) (n:Int) (v:VarD) (o:Option Addr) (cap:Nat) (hin:Row w.heap.size o 3 (dimAt w) v.dims):Calls Tryz.prog 182 #[.agg CS,.int .i64 n,.agg #[.int .i64 v.scope,.int .i64 v.slot,.int .i64 v.who,.int .i64 v.type,.slice o v.dims.length cap]] W fun e w'=>e= .returned (.bool (dvarB m n v))∧Below W.heap.size W w':=by
 rw [k.eq];exact variableH n v o cap W k.here ((hin.mono fun _ _ _ hg=>dimAt.below k.bx.bel hg).up k.bx.bel.size)
theorem Mx.matched {w W:World} {p:Nat} {CS:Array Value} {h:MH} {m:ModelD} (k:Mx w p CS h m W) (n:Int) (args mat:List Int) (o1 o2:Option Addr) (c1 c2:Nat) (hn:n≤m.exprs.length) (h1:Row w.heap.size o1 1 (intAt w) args) (h2:Row w.heap.size o2 1 (intAt w) mat):Calls Tryz.prog 183 #[.agg CS,.int .i64 n,.slice o1 args.length c1,.slice o2 mat.length c2] W fun e w'=>e= .returned (.bool (dmatB m n args mat))∧Below W.heap.size W w':=by
 rw [k.eq];exact matchedH n args mat o1 o2 c1 c2 W k.here hn ((h1.mono fun _ _ _ hg=>intAt.below k.bx.bel hg).up k.bx.bel.size) ((h2.mono fun _ _ _ hg=>intAt.below k.bx.bel hg).up k.bx.bel.size)
theorem dexpr_no1 {m:ModelD} {n:Int} {x:ExprD} (h:x.op < 1∨39 < x.op):dexprB m n x=false:=by
 unfold dexprB;rw [decide_eq_false (by omega)];rfl
theorem dexpr_no2 {m:ModelD} {n:Int} {x:ExprD} (h:dheadB n x=false):dexprB m n x=false:=by
 unfold dexprB;rw [h];simp
theorem dexpr_kind {m:ModelD} {n:Int} {x:ExprD} (h1:1≤x.op∧x.op≤39) (h:dheadB n x=true):dexprB m n x=dkindB m n x:=by
 unfold dexprB;rw [h,decide_eq_true h1];simp
theorem abc_row {w W:World} {q:Nat} {x:ExprD} (h:Bq w q #[.int .i64 x.a,.int .i64 x.b,.int .i64 x.c] 3 W) {k:Nat} (hk:k < 3):∃z,W.cell? ⟨q,k,none⟩=some (.int .i64 z)∧∃h:k < (abcL x).zipIdx.length,(abcL x).zipIdx[k]= (z,k):=by
 match k,hk with
 | 0,_=>exact ⟨x.a,h.cell rfl,by simp [abcL],rfl⟩
 | 1,_=>exact ⟨x.b,h.cell rfl,by simp [abcL],rfl⟩
 | 2,_=>exact ⟨x.c,h.cell rfl,by simp [abcL],rfl⟩
set_option maxRecDepth 100000 in
set_option maxHeartbeats 4000000 in
theorem expressionH {h:MH} {m:ModelD} (i:Nat) (x:ExprD) (hx:m.exprs[i]? =some x) (w:World) (hd:MD w.heap.size w h m):Calls Tryz.prog 153 #[mV h m,.int .i64 i] w fun e w'=>e= .returned (.bool (dexprB m i x))∧Below w.heap.size w w':=by
 obtain ⟨CS,hCS⟩:∃c,c=mCells h m:=⟨_,rfl⟩;have hi:=(List.getElem?_eq_some_iff.1 hx).1;have hii: (i:Int) < m.exprs.length:=by omega
 have hi0: (0:Int)≤i:=by omega
 have HII:=Lib.hid hi;have l6:=hd.exprs.1;obtain ⟨g,off,ho,hg,he⟩:=hd.exprs.get hx;have HX0:=Lib.hid (Mx.new hd hCS);have c6:=HX0.out.c6;rw [ho] at c6;obtain ⟨vo,vc,ao,ac,mo,mc,hxc,hr1,hr2,hr3⟩:=(he.below (Below.refl _ _) hg).xc;have HXC:=Lib.hid (hxc.below hg (ball (.cells CS 29)));have HR1:=Lib.hid hr1;have HR2:=Lib.hid hr2;have HR3:=Lib.hid hr3;have e0:=HXC.out.c0;have e1:=HXC.out.c1;have e2:=HXC.out.c2;have e3:=HXC.out.c3;have e4:=HXC.out.c4;have e5:=HXC.out.v0;have e6:=HXC.out.v1;have e7:=HXC.out.v2;have e8:=HXC.out.v3;have e9:=HXC.out.v4;have e10:=HXC.out.c6;have e11:=HXC.out.c7;have la:=hr2.1;have lm:=hr3.1;have HX:=Lib.hid (Ex.new (XS:=xCells x vo ao mo vc ac mc) hd hCS);have HXX:Hid (m.exprs[i]? =some x):=Lib.hid hx;have HPB:=Lib.hid (partsOf_le x.op);unfold xCells at HX;unfold mV;rw [←hCS];clear hd hCS hx hi ho he hxc hr1 hr2 hr3 HXC HX0;by_cases hop:1≤x.op∧x.op≤39
 · have o1:¬x.op < 1:=by omega
   have o2:¬39 < x.op:=by omega
   have HPC:=Lib.hid (fun W=>partsH x.op hop W);have HOP:=Lib.hid hop;clear hop;go_enter Tryz.func153,Tryz.ntmps153;go_wp2_with fail;refine (HPC.out _).mono ?_;rintro e w1 ⟨rfl,rfl⟩;generalize (w.alloc (.cells CS 29)).alloc (.cells #[.int .i64 x.op,.int .i64 x.n,.int .i64 x.a,.int .i64 x.b,.int .i64 x.c,.int .i64 x.v.scope,.int .i64 x.v.slot,.int .i64 x.v.who,.int .i64 x.v.type,.slice vo x.v.dims.length vc,.slice ao x.args.length ac,.slice mo x.mat.length mc] 144)=W1 at HX ⊢;clear e0 e1 e2 e3 e4 e5 e6 e7 e8 e9 e10 e11 c6 HPC o1 o2 hg;have f2:W1.cell? ⟨w.heap.size+1,2,none⟩=some (.int .i64 x.a):=HX.out.xb.cell rfl;have f3:W1.cell? ⟨w.heap.size+1,3,none⟩=some (.int .i64 x.b):=HX.out.xb.cell rfl;have f4:W1.cell? ⟨w.heap.size+1,4,none⟩=some (.int .i64 x.c):=HX.out.xb.cell rfl;have HX2:=Lib.hid (HX.out.below (ball (.cells #[.int .i64 x.a,.int .i64 x.b,.int .i64 x.c] 3)));have HL2:Hid (Bq W1 W1.heap.size #[.int .i64 x.a,.int .i64 x.b,.int .i64 x.c] 3 (W1.alloc (.cells #[.int .i64 x.a,.int .i64 x.b,.int .i64 x.c] 3))):=Lib.hid (Bq.new (Below.refl _ _) _ _);obtain ⟨P,hP⟩:∃P,partsOf x.op=P:=⟨_,rfl⟩;have hp3:P≤3:=by rw [←hP];exact HPB.out
   have HP:=Lib.hid hP;rw [hP];clear hP HX HPB;go_wp2_with fail
   go_loopw [8] (fun j wr=>∃k:Nat,j= .int .i64 k∧k≤3∧Hid (∀q (hq:q < (abcL x).zipIdx.length),q < k→dpartB i P (abcL x).zipIdx[q]=true)∧Hid (Ex w CS (xCells x vo ao mo vc ac mc) h m wr)∧Hid (Bq W1 W1.heap.size #[.int .i64 x.a,.int .i64 x.b,.int .i64 x.c] 3 wr)) (fun j _=>3 - (intOf j).toNat)
   case atStart=>exact ⟨0,rfl,by omega,Lib.hid fun j _ h=>by omega,HX2,HL2⟩
   case round=>
    clear HX2 HL2 f2 f3 f4;obtain ⟨k,rfl,hk,HJ,HX,HL⟩:=hrel;have hk0: (0:Int)≤k:=by omega
    by_cases hlt:k < 3
    · have hlti: (k:Int) < 3:=by omega
      obtain ⟨z,hz,hq,hzk⟩:=abc_row HL.out hlt;have HBAD:Hid (dpartB i P (z,k)=false→dexprB m i x=false):=Lib.hid fun h=>dexpr_no2 (by unfold dheadB;rw [HP.out];exact all_bad hq (by rw [hzk];exact h))
      have HGO:Hid (dpartB i P (z,k)=true→∀q (hq:q < (abcL x).zipIdx.length),q < k+1→dpartB i P (abcL x).zipIdx[q]=true):=Lib.hid fun h j hj hjk=>by
       by_cases e:j=k
       · subst e;rw [hzk];exact h
       · exact HJ.out j hj (by omega)
      have HX3:=Lib.hid (HX.out.below (ball (.cells #[.int .i64 z] 3)));have HL3:=Lib.hid (HL.out.below (ball (.cells #[.int .i64 z] 3)));clear hq hzk HJ;go_wp2_with fail;refine (belowQ i z _ _ (new_at rfl)).mono ?_;rintro e w3 ⟨rfl,rfl⟩;generalize wr.alloc (.cells #[.int .i64 z] 3)=W3 at HX3 HL3 ⊢;have hz3:W3.cell? ⟨W1.heap.size,k,none⟩=some (.int .i64 z):=by
       obtain ⟨z',h1,h2,h3⟩:=abc_row HL3.out hlt;obtain ⟨z'',h4,h5,h6⟩:=abc_row HL.out hlt;have h7:z'=z'':=by rw [h3] at h6;injection h6
       have h8:z''=z:=by rw [h4] at hz;injection hz with hz;injection hz
       rw [←h8,←h7];exact h1
      clear hz HL HX;obtain ⟨u,hu⟩:∃u,decide (0≤z∧z < (i:Int))=u:=⟨_,rfl⟩;rw [hu];have HU:=Lib.hid hu;clear hu;by_cases hkP:k < P
      · have hkPi: (k:Int) < P:=by omega
        have HDP:Hid (dpartB i P (z,k)=u):=Lib.hid (by unfold dpartB;rw [if_pos (by exact hkP)];exact HU.out);clear hkP;cases u
        · have HZ:=Lib.hid (HBAD.out HDP.out);go_wp2_with fail;go_ret;exact ⟨retB HZ.out.symm,HX3.out.xb.bel⟩
        · have HZ:=Lib.hid (HGO.out HDP.out);go_wp2_with fail;go_roundw;case rel=>exact ⟨k+1,by go_num,by omega,HZ,HX3,HL3⟩
          case measure=>simp [intOf];omega
      · have hkPi:¬ (k:Int) < P:=by omega
        have hkPj: (P:Int)≤k:=by omega
        have HDP:Hid (dpartB i P (z,k)=decide (z= -1)):=Lib.hid (by unfold dpartB;rw [if_neg (by exact hkP)]);clear hkP;by_cases hz1:z= -1
        · have b1: (z != -1)=false:=by simp [hz1]
          have HZ:=Lib.hid (HGO.out (by rw [HDP.out];exact decide_eq_true hz1));clear hz1;go_wp2_with fail;go_roundw;case rel=>exact ⟨k+1,by go_num,by omega,HZ,HX3,HL3⟩
          case measure=>simp [intOf];omega
        · have b1: (z != -1)=true:=by simp [hz1]
          have HZ:=Lib.hid (HBAD.out (by rw [HDP.out];exact decide_eq_false hz1));clear hz1;go_wp2_with fail;go_ret;exact ⟨retB HZ.out.symm,HX3.out.xb.bel⟩
    · have hlti:¬ (k:Int) < 3:=by omega
      have HV:Hid (dexprB m i x=dkindB m i x):=Lib.hid (dexpr_kind HOP.out (by unfold dheadB;rw [HP.out];exact all_of fun j hj=>HJ.out j hj (by simp [abcL] at hj;omega)));clear HJ HL hlt hk hp3 HP;have f1:wr.cell? ⟨w.heap.size+1,1,none⟩=some (.int .i64 x.n):=HX.out.xb.cell rfl;go_wp2_with (refine wpList_load_row rfl _ _ rfl _ rfl _ CS _ _ HX.out.mx.bx.box Tryz.underlying29 rfl HX.out.mx.info ?_);refine (HX.out.mx.proctype x.n).mono ?_;rintro e W2 ⟨rfl,hb2⟩;have HX2:=Lib.hid (HX.out.below hb2);clear hb2 f1 HX;obtain ⟨pt,hpt⟩:∃u,ptypeB m x.n=u:=⟨_,rfl⟩;rw [hpt];have HPT:=Lib.hid hpt;clear hpt;have f10:W2.cell? ⟨w.heap.size+1,10,none⟩=some (.slice ao x.args.length ac):=HX2.out.xb.cell rfl;have HRA:=Lib.hid (HR2.out.mono fun _ _ _ hg=>intAt.below HX2.out.xb.bel hg);go_wp2_with fail;refine (belowH i x.args ao ac W2 HRA.out).mono ?_;rintro e w' ⟨rfl,rfl⟩;obtain ⟨ba,hba⟩:∃u,belowB i x.args=u:=⟨_,rfl⟩;rw [hba];have HBA:=Lib.hid hba;clear hba;have f0:W2.cell? ⟨w.heap.size+1,0,none⟩=some (.int .i64 x.op):=HX2.out.xb.cell rfl;have f1:W2.cell? ⟨w.heap.size+1,1,none⟩=some (.int .i64 x.n):=HX2.out.xb.cell rfl;obtain ⟨op,hop⟩:∃op,x.op=op:=⟨_,rfl⟩;rw [hop] at f0;have HOPE:=Lib.hid hop;obtain ⟨N,hN⟩:∃N,x.n=N:=⟨_,rfl⟩;rw [hN] at f1 HPT;have HNE:=Lib.hid hN;clear hop hN;by_cases k1:op=1
      · subst k1;have HZ:Hid (dexprB m i x=decide (-2147483648≤N∧N≤2147483647)):=Lib.hid (by rw [HV.out];unfold dkindB;rw [if_pos HOPE.out,HNE.out]);go_wp2_with fail
        all_goals (go_ret;refine ⟨retB (Eq.trans ?_ HZ.out.symm),HX2.out.xb.bel⟩)
        all_goals (rw [Bool.eq_iff_iff];simp)
        all_goals omega
      have c1: (op == 1)=false:=by simp [k1]
      by_cases k2:op=2
      · subst k2;have HZ:Hid (dexprB m i x=dvarB m i x.v):=Lib.hid (by rw [HV.out];unfold dkindB;rw [if_neg (by rw [HOPE.out];decide),if_pos HOPE.out]);have f5:W2.cell? ⟨w.heap.size+1,5,none⟩=some (.int .i64 x.v.scope):=HX2.out.xb.cell rfl;have f6:W2.cell? ⟨w.heap.size+1,6,none⟩=some (.int .i64 x.v.slot):=HX2.out.xb.cell rfl;have f7:W2.cell? ⟨w.heap.size+1,7,none⟩=some (.int .i64 x.v.who):=HX2.out.xb.cell rfl;have f8:W2.cell? ⟨w.heap.size+1,8,none⟩=some (.int .i64 x.v.type):=HX2.out.xb.cell rfl;have f9:W2.cell? ⟨w.heap.size+1,9,none⟩=some (.slice vo x.v.dims.length vc):=HX2.out.xb.cell rfl;clear k1;go_wp2_with (refine wpList_load_row rfl _ _ rfl _ rfl _ CS _ _ HX2.out.mx.bx.box Tryz.underlying29 rfl HX2.out.mx.info ?_);refine (HX2.out.mx.variable i x.v vo vc HR1.out).mono ?_;rintro e W3 ⟨rfl,hb3⟩;have HX3:=Lib.hid (HX2.out.below hb3);clear hb3;go_wp2_with fail;go_ret;exact ⟨retB HZ.out.symm,HX3.out.xb.bel⟩
      have c2: (op == 2)=false:=by simp [k2]
      by_cases k30:op=30
      · subst k30;have HZ:Hid (dexprB m i x= (dmatB m i x.args x.mat && decide (N=0∨N=1))):=Lib.hid (by rw [HV.out];unfold dkindB;rw [if_neg (by rw [HOPE.out];decide),if_neg (by rw [HOPE.out];decide),if_pos HOPE.out,HNE.out]);have f11:W2.cell? ⟨w.heap.size+1,11,none⟩=some (.slice mo x.mat.length mc):=HX2.out.xb.cell rfl;clear k1 k2;go_wp2_with (refine wpList_load_row rfl _ _ rfl _ rfl _ CS _ _ HX2.out.mx.bx.box Tryz.underlying29 rfl HX2.out.mx.info ?_);refine (HX2.out.mx.matched i x.args x.mat ao mo ac mc (by have:=HII.out;omega) HR2.out HR3.out).mono ?_;rintro e W3 ⟨rfl,hb3⟩;have HX3:=Lib.hid (HX2.out.below hb3);clear hb3 f0 f1 f10 f11;have f1:W3.cell? ⟨w.heap.size+1,1,none⟩=some (.int .i64 N):=by rw [←HNE.out];exact HX3.out.xb.cell rfl
        obtain ⟨u,hu⟩:∃u,dmatB m i x.args x.mat=u:=⟨_,rfl⟩;rw [hu];rw [hu] at HZ;clear hu;cases u
        · go_wp2_with fail;go_ret;exact ⟨retB HZ.out.symm,HX3.out.xb.bel⟩
        · go_wp2_with fail
          all_goals (go_ret;refine ⟨retB (Eq.trans ?_ HZ.out.symm),HX3.out.xb.bel⟩)
          all_goals (rw [Bool.eq_iff_iff];simp_all)
      have c30: (op == 30)=false:=by simp [k30]
      by_cases k38:op=38
      · subst k38;have HZ:Hid (dexprB m i x= (pt && decide (1≤x.args.length) && belowB (locsAt m N) x.args)):=Lib.hid (by rw [HV.out];unfold dkindB;rw [if_neg (by rw [HOPE.out];decide),if_neg (by rw [HOPE.out];decide),if_neg (by rw [HOPE.out];decide),if_pos HOPE.out,HNE.out,HPT.out]);clear k1 k2 k30;cases pt
        · go_wp2_with fail;go_ret;exact ⟨retB HZ.out.symm,HX2.out.xb.bel⟩
        · by_cases hl:x.args.length < 1
          · have HZ2:Hid (dexprB m i x=false):=Lib.hid (by rw [HZ.out,decide_eq_false (by omega)];rfl);go_wp2_with fail;go_ret;exact ⟨retB HZ2.out.symm,HX2.out.xb.bel⟩
          · have HZ2:Hid (dexprB m i x=belowB (locsAt m N) x.args):=Lib.hid (by rw [HZ.out,decide_eq_true (by omega)];rfl);obtain ⟨t0,t1,t2⟩:=ptypeB_of.1 HPT.out;obtain ⟨kk,rfl⟩:∃kk:Nat,N=kk:=⟨N.toNat,by omega⟩;have hkk:kk < m.procs.length:=by omega
            have hk1: (kk:Int) < m.procs.length:=by omega
            have hkk0: (0:Int)≤kk:=by omega
            obtain ⟨gp,offp,hop,hgp,hpr⟩:=HX2.out.mx.md.procs.cell hkk;obtain ⟨lo,lc,g0,g1⟩:=hpr.locs;have lle:=g1.1;have c4:=HX2.out.mx.c4;rw [hop] at c4;have HLA:Hid (locsAt m (kk:Int)=m.procs[kk].locs.length):=Lib.hid (by unfold locsAt;simp [hkk]);obtain ⟨LN,hLN⟩:∃n,m.procs[kk].locs.length=n:=⟨_,rfl⟩;rw [hLN] at g0 HLA lle;have HC:Hid (∀nn,Calls Tryz.prog 180 #[.int .i64 LN,.slice ao x.args.length ac] (W2.drewN nn) fun e w'=>e= .returned (.bool (belowB LN x.args))∧w'=W2.drewN nn):=Lib.hid fun nn=>
             (belowH LN x.args ao ac (W2.drewN nn) (HRA.out.mono fun _ _ _ hg=>intAt.below (bdrew (Below.refl _ _) nn) hg)).mono fun _ _ ⟨h1,h2⟩=>⟨h1,h2.symm⟩
            clear t0 t2 g1 hpr hgp hop hLN t1;go_wp2_with fail;go_quiet ((go_at_call 180;exact Calls.quiet_of_same (HC.out _)));go_wp2_with fail;go_ret;exact ⟨retB (by rw [HZ2.out,HLA.out]),(HX2.out.drewN _).xb.bel⟩
      have c38: (op == 38)=false:=by simp [k38]
      by_cases k39:op=39
      · subst k39;have HZ:Hid (dexprB m i x= (pt && ba && decide ((x.args.length:Int)=paramsAt m N))):=Lib.hid (by rw [HV.out];unfold dkindB;rw [if_neg (by rw [HOPE.out];decide),if_neg (by rw [HOPE.out];decide),if_neg (by rw [HOPE.out];decide),if_neg (by rw [HOPE.out];decide),if_pos HOPE.out,HNE.out,HPT.out,HBA.out]);clear k1 k2 k30 k38;cases pt
        · go_wp2_with fail
          first
           | (go_ret;exact ⟨retB HZ.out.symm,HX2.out.xb.bel⟩)
           | (go_quiet (fail);go_wp2_with fail;go_ret;exact ⟨retB HZ.out.symm,(HX2.out.drewN _).xb.bel⟩)
        · cases ba
          · go_wp2_with fail
            first
             | (go_ret;exact ⟨retB HZ.out.symm,HX2.out.xb.bel⟩)
             | (go_ret;exact ⟨retB HZ.out.symm,HX2.out.xb.bel.drew⟩)
             | (go_quiet (fail);go_wp2_with fail;go_ret;exact ⟨retB HZ.out.symm,(HX2.out.drewN _).xb.bel⟩)
          · obtain ⟨t0,t1,t2⟩:=ptypeB_of.1 HPT.out;obtain ⟨kk,rfl⟩:∃kk:Nat,N=kk:=⟨N.toNat,by omega⟩;have hkk:kk < m.procs.length:=by omega
            have hk1: (kk:Int) < m.procs.length:=by omega
            have hkk0: (0:Int)≤kk:=by omega
            obtain ⟨gp,offp,hop,hgp,hpr⟩:=HX2.out.mx.md.procs.cell hkk;have g0:=hpr.c1;have c4:=HX2.out.mx.c4;rw [hop] at c4;have HLA:Hid (paramsAt m (kk:Int)=m.procs[kk].params):=Lib.hid (by unfold paramsAt;simp [hkk]);obtain ⟨PN,hPN⟩:∃n,m.procs[kk].params=n:=⟨_,rfl⟩;rw [hPN] at g0 HLA;clear t0 t2 hpr hgp hop hPN t1;by_cases hq: (x.args.length:Int)=PN
            · have b1: ((x.args.length:Int) == PN)=true:=by simp [hq]
              have HZ2:Hid (dexprB m i x=true):=Lib.hid (by rw [HZ.out,HLA.out,decide_eq_true hq];rfl);clear hq;go_wp2_with fail;go_quiet (fail);go_wp2_with fail;go_ret;exact ⟨retB HZ2.out.symm,(HX2.out.drewN _).xb.bel⟩
            · have b1: ((x.args.length:Int) == PN)=false:=by simp [hq]
              have HZ2:Hid (dexprB m i x=false):=Lib.hid (by rw [HZ.out,HLA.out,decide_eq_false hq];rfl);clear hq;go_wp2_with fail;go_quiet (fail);go_wp2_with fail;go_ret;exact ⟨retB HZ2.out.symm,(HX2.out.drewN _).xb.bel⟩
      have c39: (op == 39)=false:=by simp [k39]
      have HZ:Hid (dexprB m i x=true):=Lib.hid (by rw [HV.out];unfold dkindB;rw [HOPE.out,if_neg k1,if_neg k2,if_neg k30,if_neg k38,if_neg k39]);clear k1 k2 k30 k38 k39;go_wp2_with fail;go_ret;exact ⟨retB HZ.out.symm,HX2.out.xb.bel⟩
 · have HZ:Hid (dexprB m i x=false):=Lib.hid (dexpr_no1 (by omega));go_enter Tryz.func153,Tryz.ntmps153;go_wp2_with fail
   all_goals first | (exfalso;omega) | (go_ret;exact ⟨retB HZ.out.symm,HX.out.xb.bel⟩)
end Go.Proofs.YthfldokfnjpkmaaGreatDoor
