/- The document's ways of a proctype. -/
import Derived.Test.YthfldokfnjpkmaaGreatDoorM38
import Derived.Test.YthfldokfnjpkmaaGreatDoorM40
import Derived.Test.YthfldokfnjpkmaaGreatDoorM35
set_option linter.unusedVariables false
set_option linter.unusedSimpArgs false
namespace Go.Proofs.YthfldokfnjpkmaaGreatDoor
open Go.ChangeShapes Go.WideShapes Go.ChangeAt Go.RowKit
theorem dloc_list (m:ModelD) (pr:Nat) (l:LocD):dlocB m pr l= (l.out :: l.esc).all (fun w=>w.all (fun t=>dwayB m pr t.s)):=rfl
set_option maxRecDepth 100000 in
set_option maxHeartbeats 8000000 in
theorem waysH {h:MH} {m:ModelD} (hx:EX m) (i:Nat) (p:ProcD) (hp:m.procs[i]? =some p) (hesc:∀l ∈ p.locs,l.esc.length≤8) (hpv:p.provided < m.exprs.length) (w:World) (hd:MD w.heap.size w h m):
 Calls Tryz.prog 109 #[mV h m,.int .i64 i] w fun e w'=>e= .returned (.bool (dprocB m (p,i)))∧Below w.heap.size w w':=by
 obtain ⟨CS,hCS⟩:∃c,c=mCells h m:=⟨_,rfl⟩;have hi:=(List.getElem?_eq_some_iff.1 hp).1;have hii: (i:Int) < m.procs.length:=by omega
 have hi0: (0:Int)≤i:=by omega
 have l4:=hd.procs.1;obtain ⟨g,off,ho,hg,he⟩:=hd.procs.get hp;have HX0:=Lib.hid (Mx.new hd hCS);have c4:=HX0.out.c4;rw [ho] at c4;obtain ⟨fo,fc,io,ic,lo,lc,hpc0,hr1,hr2,hr3⟩:=he.pcH;have hpc:=hpc0.below hg (ball (.cells CS 29));have HR3:=Lib.hid hr3;have e0:=hpc.c0;have e1:=hpc.c1;have e2:=hpc.c2;have e3:=hpc.c3;have e4:=hpc.c4;have e5:=hpc.c5;have e6:=hpc.c6;have e7:=hpc.c7;have e8:=hpc.c8;have e9:=hpc.c9;have ll:=hr3.1;have HX:=Lib.hid (Px.new (PS:=pCells p fo io lo fc ic lc) hd hCS);have HWAY:=Lib.hid (fun (W:World) (k:Mx w w.heap.size CS h m W) (s:StmtD) (ao mo:Option Addr) (ac mc:Nat) (hra:Row W.heap.size ao 1 (intAt W) s.args) (hrm:Row W.heap.size mo 1 (intAt W) s.mat)=>wayH hx i hi s ao mo ac mc W k.here hra hrm);have HUSE:=Lib.hid (fun (W:World) (k:Mx w w.heap.size CS h m W) (n:Int) (hn:isExprB m n=true)=>k.uses hx i hi n hn false);have HESC:=Lib.hid hesc;have HPV:=Lib.hid hpv;have HA:Hid (dprocB m (p,i)= (p.locs.all (dlocB m i) && (decide (p.provided < 0) || okU m i p.provided))):=Lib.hid rfl;unfold pCells at HX;unfold mV;rw [←hCS];clear hd hCS hp hi ho he hpc hpc0 hr1 hr2 hr3 HX0 hx hesc hpv;go_enter Tryz.func109,Tryz.ntmps109;go_upto_region 2 with fail
 generalize (w.alloc (.cells CS 29)).alloc (.cells #[.string p.name,.int .i64 p.params,.slice fo p.frame.length fc,.slice io p.init.length ic,.slice lo p.locs.length lc,.int .i64 p.start,.int .i64 p.final,.int .i64 p.active,.int .i64 p.prio,.int .i64 p.provided] 73)=W1 at HX ⊢;clear e0 e1 e2 e3 e4 e5 e6 e7 e8 e9 c4 hg;go_wp2_with fail
 go_loopw [6] (fun iv wr=>∃k:Nat,iv= .int .i64 k∧k≤p.locs.length∧Hid (∀j (hj:j < p.locs.length),j < k→dlocB m i p.locs[j]=true)∧Hid (Px w CS #[.string p.name,.int .i64 p.params,.slice fo p.frame.length fc,.slice io p.init.length ic,.slice lo p.locs.length lc,.int .i64 p.start,.int .i64 p.final,.int .i64 p.active,.int .i64 p.prio,.int .i64 p.provided] h m wr)) (fun iv _=>p.locs.length - (intOf iv).toNat)
 case atStart=>exact ⟨0,rfl,by omega,Lib.hid fun j _ h=>by omega,HX⟩
 case round=>
  clear HX;obtain ⟨k,rfl,hk,HJ,HX⟩:=hrel;have hk0: (0:Int)≤k:=by omega
  have f4:wr.cell? ⟨w.heap.size+1,4,none⟩=some (.slice lo p.locs.length lc):=HX.out.pb.cell rfl;by_cases hlt:k < p.locs.length
  · have hlti: (k:Int) < p.locs.length:=by omega
    obtain ⟨gl,offl,hlo,hgl,hat0⟩:=HR3.out.cell hlt;obtain ⟨l,hl⟩:∃l,p.locs[k]=l:=⟨_,rfl⟩;have h8:=HESC.out _ (List.getElem_mem hlt);rw [hl] at hat0 h8;have hat1:=hat0.below HX.out.pb.bel hgl;obtain ⟨oo,oc,a0',hrO⟩:=hat0.out;obtain ⟨eo,ec,a1',hrE⟩:=hat0.esc;have a0:=(HX.out.pb.bel.cell (p:=⟨gl,offl+k*7,none⟩) hgl).trans a0';have a1:=(HX.out.pb.bel.cell (p:=⟨gl,offl+k*7+1,none⟩) hgl).trans a1';have a2:=hat1.c2;have a3:=hat1.c3;have a4:=hat1.c4;have a5:=hat1.c5;have a6:=hat1.c6;have HWY:=Lib.hid (waysRowH (B:=w.heap.size) l oo eo oc ec wr HX.out.pb.bel.size (hrO.mono fun _ _ _ hg=>transAt.below HX.out.pb.bel hg) (hrE.mono fun _ _ _ hg=>escAt.below HX.out.pb.bel hg) h8);have HBAD:Hid (dlocB m i l=false→dprocB m (p,i)=false):=Lib.hid fun h=>by rw [HA.out,all_bad hlt (by rw [hl];exact h)];rfl
    have HGO:Hid (dlocB m i l=true→∀j (hj:j < p.locs.length),j < k+1→dlocB m i p.locs[j]=true):=Lib.hid fun h j hj hjk=>by
     by_cases e:j=k
     · subst e;rw [hl];exact h
     · exact HJ.out j hj (by omega)
    rw [hlo] at f4;unfold lCells at HWY;clear hat0 hat1 hrO hrE hgl hl HJ hlo a0' a1';go_wp2_with fail;refine HWY.out.mono ?_;rintro e W4 ⟨wo,wc,rfl,hrw,hb4⟩;have HX4:=Lib.hid (HX.out.below hb4);have HRW:=Lib.hid hrw;obtain ⟨LL,hLL⟩:∃L,l.out :: l.esc=L:=⟨_,rfl⟩;rw [hLL] at HRW;have hL9:LL.length≤9:=by rw [←hLL];simp;omega
    have HDL:Hid (dlocB m i l=LL.all (fun w=>w.all (fun t=>dwayB m i t.s))):=Lib.hid (by rw [dloc_list,hLL]);rw [show (l.out :: l.esc).length=LL.length by rw [hLL]];clear hb4 hrw hLL HWY f4 a0 a1 a2 a3 a4 a5 a6 h8;have HB4:Hid (Below W4.heap.size W4 W4):=Lib.hid (Below.refl _ _);go_wp2_with fail
    go_loopw [8] (fun kv wr=>∃q:Nat,kv= .int .i64 q∧q≤LL.length∧Hid (∀j (hj:j < LL.length),j < q→LL[j].all (fun t=>dwayB m i t.s)=true)∧Hid (Below W4.heap.size W4 wr)) (fun kv _=>LL.length - (intOf kv).toNat)
    case atStart=>exact ⟨0,rfl,by omega,Lib.hid fun j _ h=>by omega,HB4⟩
    case round=>
     clear HB4;obtain ⟨q,rfl,hq,HJ2,HBq⟩:=hrel;have hq0: (0:Int)≤q:=by omega
     by_cases hlq:q < LL.length
     · have hlqi: (q:Int) < LL.length:=by omega
       obtain ⟨gw,offw,hwo,hgw,tO,tC,t0,hrT⟩:=HRW.out.cell hlq;rw [Nat.mul_one] at t0;obtain ⟨T,hT⟩:∃T,LL[q]=T:=⟨_,rfl⟩;rw [hT] at t0 hrT;have HT0:Hid (∀wz,Below W4.heap.size W4 wz→wz.cell? ⟨gw,offw+q,none⟩=some (.slice tO T.length tC)):=Lib.hid fun wz hb=>(hb.cell (p:=⟨gw,offw+q,none⟩) hgw).trans t0
       have lT:=hrT.1;have HRT:=Lib.hid hrT;have HWB:Hid (T.all (fun t=>dwayB m i t.s)=false→dprocB m (p,i)=false):=Lib.hid fun h=>HBAD.out (by rw [HDL.out,all_bad hlq (by rw [hT];exact h)])
       have HWG:Hid (T.all (fun t=>dwayB m i t.s)=true→∀j (hj:j < LL.length),j < q+1→LL[j].all (fun t=>dwayB m i t.s)=true):=Lib.hid fun h j hj hjk=>by
        by_cases e:j=q
        · subst e;rw [hT];exact h
        · exact HJ2.out j hj (by omega)
       have HB0:Hid (Below W4.heap.size W4 wr):=Lib.hid HBq.out;clear t0 hrT hT HJ2 hgw;subst hwo;go_wp2_with fail
       go_loopw [9] (fun jv wr=>∃r:Nat,jv= .int .i64 r∧r≤T.length∧Hid (∀j (hj:j < T.length),j < r→dwayB m i T[j].s=true)∧Hid (Below W4.heap.size W4 wr)) (fun jv _=>T.length - (intOf jv).toNat)
       case atStart=>exact ⟨0,rfl,by omega,Lib.hid fun j _ h=>by omega,HB0⟩
       case round=>
        clear HB0;obtain ⟨r,rfl,hr,HJ3,HBz⟩:=hrel;have hr0: (0:Int)≤r:=by omega
        have hr00:0≤r:=by omega
        have t1:=HT0.out _ HBz.out;by_cases hlr:r < T.length
        · have hlri: (r:Int) < T.length:=by omega
          obtain ⟨gt,offt,htO,hgt,htr⟩:=HRT.out.cell hlr;obtain ⟨s,hs⟩:∃s,T[r].s=s:=⟨_,rfl⟩;have hst:=htr.s;rw [hs] at hst;have hgt4:gt < W4.heap.size:=by have:=HX4.out.pb.bel.size;omega
          obtain ⟨ao,ac,x4,hra⟩:=hst.args;obtain ⟨mo,mc,x5,hrm⟩:=hst.mat;have y0:=(HBz.out.cell (p:=⟨gt,offt+r*9,none⟩) hgt4).trans hst.c0;have y1:=(HBz.out.cell (p:=⟨gt,offt+r*9+1,none⟩) hgt4).trans hst.c1;have y2:=(HBz.out.cell (p:=⟨gt,offt+r*9+2,none⟩) hgt4).trans hst.c2;have y3:=(HBz.out.cell (p:=⟨gt,offt+r*9+3,none⟩) hgt4).trans hst.c3;have y4:=(HBz.out.cell (p:=⟨gt,offt+r*9+4,none⟩) hgt4).trans x4;have y5:=(HBz.out.cell (p:=⟨gt,offt+r*9+5,none⟩) hgt4).trans x5;have y6:=(HBz.out.cell (p:=⟨gt,offt+r*9+6,none⟩) hgt4).trans hst.c6;have HRA:=Lib.hid (hra.mono (R':=intAt W4) fun _ _ _ _ h=>h);have HRM:=Lib.hid (hrm.mono (R':=intAt W4) fun _ _ _ _ h=>h);have HXz:=Lib.hid (HX4.out.below HBz.out);have HWBs:Hid (dwayB m i s=false→dprocB m (p,i)=false):=Lib.hid fun h=>HWB.out (all_bad hlr (by rw [hs];exact h))
          have HWGs:Hid (dwayB m i s=true→∀j (hj:j < T.length),j < r+1→dwayB m i T[j].s=true):=Lib.hid fun h j hj hjr=>by
           by_cases e:j=r
           · subst e;rw [hs];exact h
           · exact HJ3.out j hj (by omega)
          have m0:=HXz.out.mx.c0;have m1:=HXz.out.mx.c1;have m2:=HXz.out.mx.c2;have m3:=HXz.out.mx.c3;have m4:=HXz.out.mx.c4;have m5:=HXz.out.mx.c5;have m6:=HXz.out.mx.c6;rw [htO] at t1;clear htO hgt htr hgt4 hs hst x4 x5 hra hrm HJ3;go_wp2_with fail;go_still_tail 10,(by kernel_rfl);change wpList _ _ _ _ _ wr.drew;have HBD:Hid (Below W4.heap.size W4 wr.drew):=Lib.hid HBz.out.drew;generalize wr.drew=W9 at HBD ⊢;have HX9:=Lib.hid (HX4.out.below HBD.out);have HWC:=Lib.hid (HWAY.out W9 HX9.out.mx s ao mo ac mc ((HRA.out.mono fun _ _ _ hg=>intAt.below (HBD.out.mono HX4.out.pb.bel.size) hg).up HX9.out.pb.bel.size) ((HRM.out.mono fun _ _ _ hg=>intAt.below (HBD.out.mono HX4.out.pb.bel.size) hg).up HX9.out.pb.bel.size));unfold mV mCells stCells at HWC;clear m0 m1 m2 m3 m4 m5 m6 y0 y1 y2 y3 y4 y5 y6 t1 HXz;go_wp2_with fail;refine HWC.out.mono ?_;rintro e W10 ⟨rfl,hb10⟩;have HB10:Hid (Below W4.heap.size W4 W10):=Lib.hid (HBD.out.trans (hb10.mono HBD.out.size));clear hb10 HWC HX9 HBD;obtain ⟨t,ht⟩:∃t,dwayB m i s=t:=⟨_,rfl⟩;rw [ht] at HWBs HWGs;rw [ht];clear ht;cases t
          · have HZ:=Lib.hid (HWBs.out rfl);go_wp2_with fail;go_ret;exact ⟨retB HZ.out.symm,(HX4.out.below HB10.out).pb.bel⟩
          · have HZ:=Lib.hid (HWGs.out rfl);go_wp2_with fail;go_roundw;case rel=>exact ⟨r+1,by go_num,by omega,HZ,HB10⟩
            case measure=>simp [intOf];omega
        · have hlri:¬ (r:Int) < T.length:=by omega
          have HZ:=Lib.hid (HWG.out (all_of fun j hj=>HJ3.out j hj (by omega)));go_wp2_with fail;go_roundw;case rel=>exact ⟨q+1,by go_num,by omega,HZ,HBz⟩
          case measure=>simp [intOf];omega
     · have hlqi:¬ (q:Int) < LL.length:=by omega
       have HLK:=Lib.hid (HGO.out (by rw [HDL.out];exact all_of fun j hj=>HJ2.out j hj (by omega)));go_wp2_with fail;go_roundw;case rel=>exact ⟨k+1,by go_num,by omega,HLK,Lib.hid (HX4.out.below HBq.out)⟩
       case measure=>simp [intOf];omega
  · have hlti:¬ (k:Int) < p.locs.length:=by omega
    have HA2:Hid (dprocB m (p,i)= (decide (p.provided < 0) || okU m i p.provided)):=Lib.hid (by rw [HA.out,all_of fun j hj=>HJ.out j hj (by omega)];rfl);have f9:wr.cell? ⟨w.heap.size+1,9,none⟩=some (.int .i64 p.provided):=HX.out.pb.cell rfl;by_cases kp:p.provided < 0
    · have HZ:Hid (dprocB m (p,i)=true):=Lib.hid (by rw [HA2.out,decide_eq_true kp];rfl);go_wp2_with fail;go_ret;exact ⟨retB HZ.out.symm,HX.out.pb.bel⟩
    · have HU4:=Lib.hid (HUSE.out wr HX.out.mx p.provided (by unfold isExprB;exact decide_eq_true ⟨by omega,HPV.out⟩));have HZ:Hid (dprocB m (p,i)=okU m i p.provided):=Lib.hid (by rw [HA2.out,decide_eq_false kp];rfl);go_wp2_with (refine wpList_load_row rfl _ _ rfl _ rfl _ CS _ _ HX.out.mx.bx.box Tryz.underlying29 rfl HX.out.mx.info ?_);refine HU4.out.mono ?_;rintro e W4 ⟨rfl,hb4⟩;have HX4:=Lib.hid (HX.out.below hb4);clear hb4;go_wp2_with fail;go_ret;exact ⟨retB HZ.out.symm,HX4.out.pb.bel⟩
end Go.Proofs.YthfldokfnjpkmaaGreatDoor
namespace Go.Proofs.YthfldokfnjpkmaaGreatDoor
open Go.ChangeShapes Go.WideShapes Go.ChangeAt Go.RowKit
theorem retIII' {a b c a' b' c':Int} (h1:a=a') (h2:b=b') (h3:c=c'):Ending.returned (.tuple #[.int .i64 a,.int .i64 b,.int .i64 c])= .returned (.tuple #[.int .i64 a',.int .i64 b',.int .i64 c']):=by rw [h1,h2,h3]
theorem Mx.tables {w W:World} {p:Nat} {CS:Array Value} {h:MH} {m:ModelD} (k:Mx w p CS h m W) (hab:ArgsB m):Calls Tryz.prog 107 #[.agg CS] W fun e w'=>e= .returned (.tuple #[.int .i64 (tablesF m).1,.int .i64 (tablesF m).2])∧Below W.heap.size W w':=by
 rw [k.eq];exact tablesH W k.here hab
theorem Mx.table {w W:World} {p:Nat} {CS:Array Value} {h:MH} {m:ModelD} (k:Mx w p CS h m W) (i:Nat) (q:ProcD) (hq:m.procs[i]? =some q):Calls Tryz.prog 108 #[.agg CS,.int .i64 i] W fun e w'=>e= .returned (.bool (procB m (q,i)))∧Below W.heap.size W w':=by
 rw [k.eq,←table_is];exact tableH i q hq W k.here
theorem Mx.ways {w W:World} {p:Nat} {CS:Array Value} {h:MH} {m:ModelD} (k:Mx w p CS h m W) (hx:EX m) (i:Nat) (q:ProcD) (hq:m.procs[i]? =some q) (hesc:∀l ∈ q.locs,l.esc.length≤8) (hpv:q.provided < m.exprs.length):Calls Tryz.prog 109 #[.agg CS,.int .i64 i] W fun e w'=>e= .returned (.bool (dprocB m (q,i)))∧Below W.heap.size W w':=by
 rw [k.eq];exact waysH hx i q hq hesc hpv W k.here
theorem zip_at {m:ModelD} {i:Nat} {q:ProcD} (hq:m.procs[i]? =some q):∃h:i < m.procs.zipIdx.length,m.procs.zipIdx[i]= (q,i):=by
 obtain ⟨hi,rfl⟩:=List.getElem?_eq_some_iff.1 hq;exact ⟨by rw [List.length_zipIdx];exact hi,by rw [List.getElem_zipIdx];simp⟩
theorem dstat_bad {m:ModelD}:∀ (l:List ProcD) (k i:Nat) (hi:i < l.length),(∀j (hj:j < l.length),j < i→dprocB m (l[j],k+j)=true)→dprocB m (l[i],k+i)=false→dstatGo m (l.zipIdx k)= (((k+i:Nat):Int),false)
 | [],k,i,hi,_,_=>by simp at hi
 | p :: r,k,0,hi,_,h=>by
   rw [List.zipIdx_cons];unfold dstatGo;rw [if_neg (by simpa using h)];simp
 | p :: r,k,i+1,hi,hj,h=>by
   rw [List.zipIdx_cons];unfold dstatGo;rw [if_pos (show dprocB m (p,k)=true from hj 0 (by simp) (by omega))];have:=dstat_bad r (k+1) i (by simpa using hi) (fun j hj2 hji=>by
    have:=hj (j+1) (by simpa using hj2) (by omega);rw [show k+1+j=k+ (j+1) by omega];simpa using this) (by rw [show k+1+i=k+ (i+1) by omega];simpa using h)
   rw [this,show k+1+i=k+ (i+1) by omega]
theorem dstat_ok {m:ModelD}:∀ (l:List ProcD) (k:Nat),(∀j (hj:j < l.length),dprocB m (l[j],k+j)=true)→dstatGo m (l.zipIdx k)= (0,true)
 | [],k,_=>rfl
 | p :: r,k,h=>by
   rw [List.zipIdx_cons];unfold dstatGo;rw [if_pos (show dprocB m (p,k)=true from h 0 (by simp))];exact dstat_ok r (k+1) fun j hj=>by
    have:=h (j+1) (by simpa using hj);rw [show k+1+j=k+ (j+1) by omega];simpa using this
theorem procB_of {m:ModelD} {q:ProcD} {i:Nat} (h:procB m (q,i)=true): (0≤q.active∧q.active≤16)∧q.provided < m.exprs.length∧∀l ∈ q.locs,l.esc.length≤8:=by
 rw [←table_is] at h;unfold dtableB at h;simp only [Bool.and_eq_true] at h;obtain ⟨⟨⟨⟨⟨h1,h2⟩,h3⟩,h4⟩,h5⟩,h6⟩:=h;unfold dtabTail at h3;rw [decide_eq_true_eq] at h3;refine ⟨by omega,by omega,fun l hl=> ?_⟩;obtain ⟨j,hj,rfl⟩:=List.mem_iff_getElem.1 hl;have hz:j < q.locs.zipIdx.length:=by rw [List.length_zipIdx];exact hj
 have h7:=List.all_eq_true.1 h5 _ (List.getElem_mem hz);rw [List.getElem_zipIdx] at h7;unfold dtabLoc locHeadB at h7;simp only [Bool.and_eq_true,Bool.not_eq_true',decide_eq_false_iff_not] at h7;have:=h7.1.1.1;simp at this;omega
theorem checkF_tab {m:ModelD} {a b:Int} (h:tablesF m= (a,b)) (ha:0 < a):checkL m= (40,a,b):=by
 unfold tablesF at h;unfold checkL;split at h
 · rename_i h1
   rw [if_pos h1];injection h with h2 h3
   rw [←h2,←h3]
 · rename_i h1
   rw [if_neg h1];split at h
   · rename_i h4
     rw [if_pos h4];injection h with h2 h3
     rw [←h2,←h3]
   · rename_i h4
     rw [if_neg h4];split at h
     · rename_i h5
       rw [if_pos h5];injection h with h2 h3
       rw [←h2,←h3]
     · injection h with h2 h3
       omega
theorem checkF_rest {m:ModelD} {a b:Int} (h:tablesF m= (a,b)) (ha:¬0 < a):EX m∧m.procs.length≤16∧checkL m=if (procsL m).2=false then (40,4,(procsL m).1) else if (activeL m).2=false then (40,5,(activeL m).1) else if (statementsL m).2=false then (40,6,(statementsL m).1) else (0,0,0):=by
 unfold tablesF at h;split at h
 · injection h with h2 h3;omega
 · rename_i h1
   split at h
   · injection h with h2 h3;omega
   · rename_i h4
     split at h
     · injection h with h2 h3;omega
     · rename_i h5
       have h6: (expressionsL m).2=true:=by simpa using h5
       refine ⟨EX.of h6, ?_, ?_⟩
       · unfold expressionsL at h6;split at h6
         · cases h6
         · rename_i hh
           unfold exprsHead at hh;rw [decide_eq_true_eq] at hh;omega
       · unfold checkL;rw [if_neg h1,if_neg h4,if_neg h5]
set_option maxRecDepth 100000 in
set_option maxHeartbeats 8000000 in
theorem checkH {h:MH} {m:ModelD} (w:World) (hd:MD w.heap.size w h m) (hab:ArgsB m):Calls Tryz.prog 59 #[mV h m] w fun e w'=>e= .returned (.tuple #[.int .i64 (checkL m).1,.int .i64 (checkL m).2.1,.int .i64 (checkL m).2.2])∧Below w.heap.size w w':=by
 obtain ⟨CS,hCS⟩:∃c,c=mCells h m:=⟨_,rfl⟩;have l4:=hd.procs.1;have HAB:=Lib.hid hab;have HX:=Lib.hid (Mx.new hd hCS);have HT:Hid (∀a b c,checkL m= (a,b,c)→Ending.returned (.tuple #[.int .i64 a,.int .i64 b,.int .i64 c])= .returned (.tuple #[.int .i64 (checkL m).1,.int .i64 (checkL m).2.1,.int .i64 (checkL m).2.2])):=Lib.hid fun a b c h=>by rw [h]
 unfold mV;rw [←hCS];clear hd hCS hab;go_enter Tryz.func59,Tryz.ntmps59;go_upto_region 1 with fail
 generalize w.alloc (.cells CS 29)=W1 at HX ⊢;go_wp2_with (refine wpList_load_row rfl _ _ rfl _ rfl _ CS _ _ HX.out.bx.box Tryz.underlying29 rfl HX.out.info ?_);refine (HX.out.tables HAB.out).mono ?_;rintro e W2 ⟨rfl,hb2⟩;have HX2:=Lib.hid (HX.out.below hb2);clear hb2 HX;obtain ⟨a,b,htf⟩:∃a b,tablesF m= (a,b):=⟨_,_,rfl⟩;rw [htf];simp only;by_cases ha:0 < a
 · have HZ:=Lib.hid (checkF_tab htf ha);clear htf;go_wp2_with fail;go_ret3;exact ⟨HT.out _ _ _ HZ.out,HX2.out.bx.bel⟩
 obtain ⟨hx,h16,hck⟩:=checkF_rest htf ha;have HEX:=Lib.hid hx;have HCK:=Lib.hid hck;clear htf hx hck;go_wp2_with fail
 go_loopw [7,8] (fun mv iv wr=>∃ (k:Nat) (M:Int),mv= .int .i64 M∧iv= .int .i64 k∧k≤m.procs.length∧0≤M∧M≤k*16∧Hid (M= ((m.procs.take k).map (·.active)).sum)∧Hid (∀j (hj:j < m.procs.zipIdx.length),j < k→procB m m.procs.zipIdx[j]=true)∧Hid (Mx w w.heap.size CS h m wr)) (fun _ iv _=>m.procs.length - (intOf iv).toNat)
 case atStart=>exact ⟨0,0,rfl,rfl,by omega,by omega,by omega,Lib.hid rfl,Lib.hid fun j _ h=>by omega,HX2⟩
 case round=>
  clear HX2;obtain ⟨k,M,rfl,rfl,hk,hM0,hM1,HM,HJ,HX⟩:=hrel;have hk0: (0:Int)≤k:=by omega
  have c4:=HX.out.c4;by_cases hlt:k < m.procs.length
  · have hlti: (k:Int) < m.procs.length:=by omega
    obtain ⟨q,hq⟩:∃q,m.procs[k]? =some q:=⟨_,List.getElem?_eq_getElem hlt⟩;have HTB:=Lib.hid (HX.out.table k q hq);obtain ⟨hz,hzk⟩:=zip_at hq;have HBAD:Hid (procB m (q,k)=false→checkL m= (40,4,(k:Int))):=Lib.hid fun h=>by
     have e:=bad_some hz (by rw [hzk];exact h) HJ.out;have e2:procsL m= ((k:Int),false):=by unfold procsL;rw [e];rfl
     rw [HCK.out,e2];rfl
    have HGO:Hid (procB m (q,k)=true→∀j (hj:j < m.procs.zipIdx.length),j < k+1→procB m m.procs.zipIdx[j]=true):=Lib.hid fun h j hj hjk=>by
     by_cases e:j=k
     · subst e;rw [hzk];exact h
     · exact HJ.out j hj (by omega)
    have HQ:=Lib.hid hq;have HSM:Hid (((m.procs.take (k+1)).map (·.active)).sum=M+q.active):=Lib.hid (by
     have e:m.procs[k]=q:=(List.getElem?_eq_some_iff.1 hq).2;rw [List.take_succ_eq_append_getElem hlt,List.map_append,List.sum_append,←HM.out,e];simp)
    clear hq hz hzk HJ;go_wp2_with (refine wpList_load_row rfl _ _ rfl _ rfl _ CS _ _ HX.out.bx.box Tryz.underlying29 rfl HX.out.info ?_);refine HTB.out.mono ?_;rintro e W3 ⟨rfl,hb3⟩;have HX3:=Lib.hid (HX.out.below hb3);clear hb3 HTB HX c4;cases hu:procB m (q,k)
    · have HZ:=Lib.hid (HBAD.out hu);clear hu;go_wp2_with fail;go_ret3;exact ⟨HT.out _ _ _ HZ.out,HX3.out.bx.bel⟩
    · have HZ:=Lib.hid (HGO.out hu);obtain ⟨⟨a0,a1⟩,-,-⟩:=procB_of hu;obtain ⟨g,off,ho,hg,hpa⟩:=HX3.out.md.procs.get HQ.out;have c4:=HX3.out.c4;rw [ho] at c4;obtain ⟨A,hA⟩:∃A,q.active=A:=⟨_,rfl⟩;have e7:=hpa.c7;rw [hA] at e7 a0 a1 HSM;clear hu ho hg hpa hA;go_wp2_with fail;go_roundw;case rel=>exact ⟨k+1,M+A,by go_num,by go_num,by omega,by omega,by omega,Lib.hid HSM.out.symm,HZ,HX3⟩
      case measure=>simp [intOf];omega
  · have hlti:¬ (k:Int) < m.procs.length:=by omega
    have HPR:Hid (∀j q,m.procs[j]? =some q→procB m (q,j)=true):=Lib.hid fun j q hq=>by
     obtain ⟨hz,hzk⟩:=zip_at hq;have:=HJ.out j hz (by rw [List.length_zipIdx] at hz;omega);rw [hzk] at this;exact this
    have HC1:Hid (checkL m=if (activeL m).2=false then (40,5,(activeL m).1) else if (statementsL m).2=false then (40,6,(statementsL m).1) else (0,0,0)):=Lib.hid (by
     have e:procsL m= (0,true):=by
      unfold procsL;rw [bad_none fun j hj=>HJ.out j hj (by rw [List.length_zipIdx] at hj;omega)];rfl
     rw [HCK.out,e];rfl)
    have HAC:Hid (activeL m= (-1,decide (M≤16))):=Lib.hid (by
     have h1:=HM.out;rw [List.take_of_length_le (by omega)] at h1;unfold activeL activeS;rw [h1])
    clear HJ HCK HM;by_cases hm:16 < M
    · have HZ:Hid (checkL m= (40,5,-1)):=Lib.hid (by rw [HC1.out,HAC.out,decide_eq_false (by omega)];rfl);go_wp2_with fail;go_ret3;exact ⟨HT.out _ _ _ HZ.out,HX.out.bx.bel⟩
    have HC2:Hid (checkL m=if (dstatGo m m.procs.zipIdx).2=false then (40,6,(dstatGo m m.procs.zipIdx).1) else (0,0,0)):=Lib.hid (by rw [HC1.out,HAC.out,decide_eq_true (by omega),statements_is HEX.out];rfl);clear HC1 HAC;go_wp2_with fail;clear c4
    go_loopw [10] (fun iv wr=>∃k:Nat,iv= .int .i64 k∧k≤m.procs.length∧Hid (∀j (hj:j < m.procs.length),j < k→dprocB m (m.procs[j],j)=true)∧Hid (Mx w w.heap.size CS h m wr)) (fun iv _=>m.procs.length - (intOf iv).toNat)
    case atStart=>exact ⟨0,rfl,by omega,Lib.hid fun j _ h=>by omega,HX⟩
    case round=>
     clear HX;obtain ⟨k2,rfl,hk2,HJ,HX⟩:=hrel;have hk20: (0:Int)≤k2:=by omega
     have c4:=HX.out.c4;by_cases hlt2:k2 < m.procs.length
     · have hlti2: (k2:Int) < m.procs.length:=by omega
       obtain ⟨q,hq⟩:∃q,m.procs[k2]=q:=⟨_,rfl⟩;have hq2:m.procs[k2]? =some q:=by rw [List.getElem?_eq_getElem hlt2,hq]
       obtain ⟨-,p1,p2⟩:=procB_of (HPR.out k2 q hq2);have HWY:=Lib.hid (HX.out.ways HEX.out k2 q hq2 p2 p1);have HBAD:Hid (dprocB m (q,k2)=false→checkL m= (40,6,(k2:Int))):=Lib.hid fun h=>by
        have e:=dstat_bad m.procs 0 k2 hlt2 (fun j hj hjk=>by rw [Nat.zero_add];exact HJ.out j hj hjk) (by rw [Nat.zero_add,hq];exact h);rw [HC2.out,e,Nat.zero_add];rfl
       have HGO:Hid (dprocB m (q,k2)=true→∀j (hj:j < m.procs.length),j < k2+1→dprocB m (m.procs[j],j)=true):=Lib.hid fun h j hj hjk=>by
        by_cases e:j=k2
        · subst e;rw [hq];exact h
        · exact HJ.out j hj (by omega)
       clear hq hq2 p1 p2 HJ;go_wp2_with (refine wpList_load_row rfl _ _ rfl _ rfl _ CS _ _ HX.out.bx.box Tryz.underlying29 rfl HX.out.info ?_);refine HWY.out.mono ?_;rintro e W3 ⟨rfl,hb3⟩;have HX3:=Lib.hid (HX.out.below hb3);clear hb3 HWY HX c4;obtain ⟨u,hu⟩:∃u,dprocB m (q,k2)=u:=⟨_,rfl⟩;rw [hu] at HBAD HGO;rw [hu];clear hu;cases u
       · have HZ:=Lib.hid (HBAD.out rfl);go_wp2_with fail;go_ret3;exact ⟨HT.out _ _ _ HZ.out,HX3.out.bx.bel⟩
       · have HZ:=Lib.hid (HGO.out rfl);go_wp2_with fail;go_roundw;case rel=>exact ⟨k2+1,by go_num,by omega,HZ,HX3⟩
         case measure=>simp [intOf];omega
     · have hlti2:¬ (k2:Int) < m.procs.length:=by omega
       have HZ:Hid (checkL m= (0,0,0)):=Lib.hid (by
        rw [HC2.out,dstat_ok m.procs 0 fun j hj=>by rw [Nat.zero_add];exact HJ.out j hj (by omega)];rfl)
       go_wp2_with fail;go_ret3;exact ⟨HT.out _ _ _ HZ.out,HX.out.bx.bel⟩
theorem mayH {h:MH} {m:ModelD} (w:World) (hd:MD w.heap.size w h m) (hab:ArgsB m):Calls Tryz.prog 35 #[mV h m] w fun e w'=>e= .returned (.bool ((checkL m).1 == 0))∧Below w.heap.size w w':=by
 have HC:=Lib.hid (fun (W:World) (hd:MD W.heap.size W h m)=>checkH W hd hab);obtain ⟨CS,hCS⟩:∃c,c=mCells h m:=⟨_,rfl⟩;have HX:=Lib.hid (Mx.new hd hCS);unfold mV at HC ⊢;rw [←hCS] at HC ⊢;clear hd hCS hab;go_enter Tryz.func35,Tryz.ntmps35;go_upto_region 1 with fail
 generalize w.alloc (.cells CS 29)=W1 at HX ⊢;go_wp2_with (refine wpList_load_row rfl _ _ rfl _ rfl _ CS _ _ HX.out.bx.box Tryz.underlying29 rfl HX.out.info ?_);refine (HC.out W1 HX.out.here).mono ?_;rintro e W2 ⟨rfl,hb2⟩;have HX2:=Lib.hid (HX.out.below hb2);clear hb2 HX;go_wp2_with fail;go_ret;exact ⟨rfl,HX2.out.bx.bel⟩
end Go.Proofs.YthfldokfnjpkmaaGreatDoor
