/- The document's matches. -/
import Derived.Test.YtnoibjahliafpaaGreatDoorM06
set_option linter.unusedVariables false
set_option linter.unusedSimpArgs false
namespace Go.Proofs.YtnoibjahliafpaaGreatDoor
open Go.ChangeShapes Go.WideShapes Go.ChangeAt Go.RowKit
theorem Mx.drewN {w W:World} {p:Nat} {CS:Array Value} {h:MH} {m:ModelD} (k:Mx w p CS h m W) (n:Nat):Mx w p CS h m (W.drewN n):=k.below (bdrew (Below.refl _ _) n)
theorem dfield_false1 {m:ModelD} {x q:Int} (h:¬ (-1≤q∧q≤1)):dfieldB m (x,q)=false:=by
 unfold dfieldB;rw [decide_eq_false (by exact h)];rfl
theorem dfield_is {m:ModelD} {x q op:Int} (h: -1≤q∧q≤1) (ho:opAt m x=op):dfieldB m (x,q)= (!(decide (q=0)) || decide (op=2)):=by
 unfold dfieldB;rw [decide_eq_true (by exact h),ho];rfl
set_option maxRecDepth 100000 in
set_option maxHeartbeats 2000000 in
theorem matchedH {h:MH} {m:ModelD} (n:Int) (args mat:List Int) (o1 o2:Option Addr) (c1 c2:Nat) (w:World) (hd:MD w.heap.size w h m) (hn:n≤m.exprs.length) (h1:Row w.heap.size o1 1 (intAt w) args) (h2:Row w.heap.size o2 1 (intAt w) mat):
 Calls Tryz.prog 106 #[mV h m,.int .i64 n,.slice o1 args.length c1,.slice o2 mat.length c2] w fun e w'=>e= .returned (.bool (dmatB m n args mat))∧Below w.heap.size w w':=by
 obtain ⟨CS,hCS⟩:∃c,c=mCells h m:=⟨_,rfl⟩;have HX:=Lib.hid (Mx.new hd hCS);have H1:=Lib.hid h1;have H2:=Lib.hid h2;have HN:=Lib.hid hn;have n1:=h1.1;have n2:=h2.1;have n3:=hd.exprs.1;have HBL:=Lib.hid (belowH n args o1 c1 (w.alloc (.cells CS 29)) (h1.mono fun _ _ _ hg=>intAt.below (ball _) hg));unfold mV;rw [←hCS];clear h1 h2 hd hCS hn;go_enter Tryz.func106,Tryz.ntmps106;go_wp2_with fail;refine HBL.out.mono ?_;rintro e w1 ⟨rfl,rfl⟩;generalize w.alloc (.cells CS 29)=W1 at HX ⊢;obtain ⟨u,hu⟩:∃u,belowB n args=u:=⟨_,rfl⟩;rw [hu];have HU:=Lib.hid hu;clear hu HBL;by_cases hbad:u=true∧1≤args.length∧args.length≤8∧mat.length=args.length
 · obtain ⟨rfl,g1,g2,g3⟩:=hbad;have HV:Hid (dmatB m n args mat= (args.zip mat).all (dfieldB m)):=Lib.hid (by unfold dmatB;rw [HU.out,decide_eq_true ⟨g1,g2,g3⟩];rfl);have HL:=Lib.hid g3;have i1:¬args.length < 1:=by omega
   have i2:¬8 < args.length:=by omega
   have i3: ((mat.length:Int) != (args.length:Int))=false:=by simp;omega
   clear g3 g1 g2;go_wp2_with fail
   go_loopw [10] (fun i wr=>∃k:Nat,i= .int .i64 k∧k≤mat.length∧Hid (∀j (hj:j < (args.zip mat).length),j < k→dfieldB m (args.zip mat)[j]=true)∧Hid (Mx w w.heap.size CS h m wr)) (fun i _=>mat.length - (intOf i).toNat)
   case atStart=>exact ⟨0,rfl,by omega,Lib.hid fun j _ h=>by omega,HX⟩
   case round=>
    clear HX;obtain ⟨k,rfl,hk,HD,HX⟩:=hrel;have hk0: (0:Int)≤k:=by omega
    have hk00:0≤k:=by omega
    by_cases hlt:k < mat.length
    · have hlti: (k:Int) < mat.length:=by omega
      have hlta:k < args.length:=by have:=HL.out;omega
      have hltai: (k:Int) < args.length:=by omega
      obtain ⟨ga,offa,hoa,hga,ea⟩:=H1.out.cell hlta;obtain ⟨gm,offm,hom,hgm,em⟩:=H2.out.cell hlt;obtain ⟨hz,hzip⟩:=zip_getH hlta hlt;obtain ⟨a,ha⟩:∃a,args[k]=a:=⟨_,rfl⟩;obtain ⟨q,hq⟩:∃q,mat[k]=q:=⟨_,rfl⟩;have hab:0≤a∧a < n:=by
       have hb:=HU.out;unfold belowB at hb;rw [List.all_eq_true] at hb;have:=hb _ (List.getElem_mem hlta);rw [ha] at this;exact of_decide_eq_true this
      obtain ⟨x,rfl⟩:∃x:Nat,a=x:=⟨a.toNat,by omega⟩;have hxl:x < m.exprs.length:=by have:=HN.out;omega
      have hxli: (x:Int) < m.exprs.length:=by omega
      have hx0: (0:Int)≤x:=by omega
      obtain ⟨ge,offe,hoe,hge,ee⟩:=HX.out.md.exprs.cell hxl;obtain ⟨op,hop⟩:∃op,m.exprs[x].op=op:=⟨_,rfl⟩;have e0:=ee.c0;rw [hop] at e0;have HOP:Hid (opAt m (x:Int)=op):=Lib.hid (by unfold opAt;simp [hxl,hop]);have ca:wr.cell? ⟨ga,offa+k,none⟩=some (.int .i64 x):=by
       have:=(HX.out.bx.bel.cell (p:=⟨ga,offa+k*1,none⟩) hga).trans ea;rw [Nat.mul_one,ha] at this;exact this
      have cm:wr.cell? ⟨gm,offm+k,none⟩=some (.int .i64 q):=by
       have:=(HX.out.bx.bel.cell (p:=⟨gm,offm+k*1,none⟩) hgm).trans em;rw [Nat.mul_one,hq] at this;exact this
      have c6:=HX.out.c6;rw [hoe] at c6;subst hoa hom;rw [ha,hq] at hzip;have HBAD:Hid (dfieldB m ((x:Int),q)=false→dmatB m n args mat=false):=Lib.hid fun h=>by rw [HV.out,all_bad hz (by rw [hzip];exact h)]
      have HGO:Hid (dfieldB m ((x:Int),q)=true→∀j (hj:j < (args.zip mat).length),j < k+1→dfieldB m (args.zip mat)[j]=true):=Lib.hid fun h j hj hjk=>by
       by_cases e:j=k
       · subst e;rw [hzip];exact h
       · exact HD.out j hj (by omega)
      clear ea em ee ha hq hab hop hz hzip hga hgm hge hoe;by_cases q1:q < -1
      · have b1:decide (q < -1)=true:=decide_eq_true q1;have HZ:=Lib.hid (HBAD.out (dfield_false1 (by omega)));clear q1;go_wp2_with fail;go_quiet (fail);go_wp2_with fail;go_ret;exact ⟨retB HZ.out.symm,(HX.out.drewN _).bx.bel⟩
      have b1:decide (q < -1)=false:=decide_eq_false q1;by_cases q2:1 < q
      · have b2:decide (1 < q)=true:=decide_eq_true q2;have HZ:=Lib.hid (HBAD.out (dfield_false1 (by omega)));clear q1 q2;go_wp2_with fail;go_quiet (fail);go_wp2_with fail;go_ret;exact ⟨retB HZ.out.symm,(HX.out.drewN _).bx.bel⟩
      have b2:decide (1 < q)=false:=decide_eq_false q2;have HDF:Hid (dfieldB m ((x:Int),q)= (!(decide (q=0)) || decide (op=2))):=Lib.hid (dfield_is (by omega) HOP.out);by_cases q3:q=0
      · have b3: (q == 0)=true:=by simp [q3]
        by_cases q4:op=2
        · have b4: (op != 2)=false:=by simp [q4]
          have HZ:=Lib.hid (HGO.out (by rw [HDF.out,decide_eq_true q4];simp));clear q1 q2 q3 q4;go_wp2_with fail;go_quiet (fail);go_wp2_with fail;go_roundw;case rel=>exact ⟨k+1,by go_num,by omega,HZ,Lib.hid (HX.out.drewN _)⟩
          case measure=>simp [intOf];omega
        · have b4: (op != 2)=true:=by simp [q4]
          have HZ:=Lib.hid (HBAD.out (by rw [HDF.out,decide_eq_false q4,decide_eq_true q3];rfl));clear q1 q2 q3 q4;go_wp2_with fail;go_quiet (fail);go_wp2_with fail;go_ret;exact ⟨retB HZ.out.symm,(HX.out.drewN _).bx.bel⟩
      · have b3: (q == 0)=false:=by simp [q3]
        have HZ:=Lib.hid (HGO.out (by rw [HDF.out,decide_eq_false q3];rfl));clear q1 q2 q3;go_wp2_with fail;go_quiet (fail);go_wp2_with fail;go_roundw;case rel=>exact ⟨k+1,by go_num,by omega,HZ,Lib.hid (HX.out.drewN _)⟩
        case measure=>simp [intOf];omega
    · have hlti:¬ (k:Int) < mat.length:=by omega
      have HZ:Hid (dmatB m n args mat=true):=Lib.hid (by rw [HV.out];exact all_of fun j hj=>HD.out j hj (by rw [List.length_zip] at hj;omega));go_wp2_with fail;go_ret;exact ⟨retB HZ.out.symm,HX.out.bx.bel⟩
 · have HV:Hid (dmatB m n args mat=false):=Lib.hid (by
    unfold dmatB;rw [HU.out];cases u
    · rfl
    · rw [decide_eq_false (fun h=>hbad ⟨rfl,h⟩)];rfl)
   have hm: ((mat.length:Int) != (args.length:Int))=decide (mat.length≠args.length):=by
    rw [Bool.eq_iff_iff];simp;omega
   cases u
   · go_wp2_with fail;go_ret;exact ⟨retB HV.out.symm,HX.out.bx.bel⟩
   · by_cases g1:args.length < 1
     · go_wp2_with fail;go_ret;exact ⟨retB HV.out.symm,HX.out.bx.bel⟩
     · by_cases g2:8 < args.length
       · go_wp2_with fail;go_ret;exact ⟨retB HV.out.symm,HX.out.bx.bel⟩
       · have g3: ((mat.length:Int) != (args.length:Int))=true:=by
          rw [bne_iff_ne];intro e;exact hbad ⟨rfl,by omega,by omega,by omega⟩
         clear hm hbad;go_wp2_with fail;go_ret;exact ⟨retB HV.out.symm,HX.out.bx.bel⟩
end Go.Proofs.YtnoibjahliafpaaGreatDoor
