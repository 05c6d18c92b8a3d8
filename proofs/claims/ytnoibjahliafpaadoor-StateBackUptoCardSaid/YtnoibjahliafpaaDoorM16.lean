/- What a statement of a proctype uses. -/
import Derived.Test.YtnoibjahliafpaaDoorM15
set_option linter.unusedVariables false
set_option linter.unusedSimpArgs false
namespace Go.Proofs.YtnoibjahliafpaaDoor
open Go.ChangeShapes Go.WideShapes Go.ChangeAt Go.RowKit
theorem stopF_no {σ α:Type} {f:σ→α→Bool × σ} {x:α} {r:List α} {s:σ} (h: (f s x).1=false):stopF f (x :: r) s= (false,(f s x).2):=by
 unfold stopF;rw [h];rfl
theorem stopF_yes {σ α:Type} {f:σ→α→Bool × σ} {x:α} {r:List α} {s:σ} (h: (f s x).1=true):stopF f (x :: r) s=stopF f r (f s x).2:=by
 rw [stopF,if_pos h]
theorem stopF_app {σ α:Type} {f:σ→α→Bool × σ}:∀ (a b:List α) (s:σ),stopF f (a ++ b) s=if (stopF f a s).1=true then stopF f b (stopF f a s).2 else stopF f a s
 | [],b,s=>by simp [stopF]
 | x :: a,b,s=>by
   rw [List.cons_append];by_cases h: (f s x).1=true
   · rw [stopF_yes h,stopF_yes h,stopF_app a b]
   · have h': (f s x).1=false:=by simpa using h
     rw [stopF_no h',stopF_no h'];rfl
def VJ (B p sb:Nat) (h:MH) (m:ModelD) (proc:Nat) (r:Bool × List Int) (w0:World) (R:List Int) (W:World):Prop:=
 ∃seen left,stopF (usesL m proc) R seen=r∧UJ B p sb h m seen left W∧Gn B w0 W
def VStep (B p sb:Nat) (h:MH) (m:ModelD) (proc:Nat) (r:Bool × List Int) (w0:World) (R:List Int) (e:Ending) (W:World):Prop:=
 ∃u,e= .returned (.bool u)∧ (u=true→VJ B p sb h m proc r w0 R W)∧ (u=false→UsesP B p sb h m r w0 (.returned (.bool false)) W)
section
variable {B p sb:Nat} {h:MH} {m:ModelD} {proc:Nat} {r:Bool × List Int} {w0 W:World}
theorem usesV {q:Int} {R:List Int} (hv:VJ B p sb h m proc r w0 (q :: R) W) (hx:EX m) (hproc:proc < m.procs.length) (hq:0≤q∧q < m.exprs.length):
 Calls Tryd.prog 62 #[.pointer (some ⟨p,0,none⟩),.int .i64 proc,.int .i64 q] W (VStep B p sb h m proc r w0 R):=by
 obtain ⟨k,rfl⟩:∃k:Nat,q=k:=⟨q.toNat,by omega⟩;obtain ⟨seen,left,h1,h2,h3⟩:=hv;refine (usesC proc k W h2 hx hproc (by omega)).mono ?_;rintro e W' ⟨rfl,⟨left',h4⟩,h5⟩;refine ⟨_,rfl,fun hu=>⟨_,_, ?_,h4,h3.trans h5⟩,fun hu=> ?_⟩
 · rw [←h1,stopF_yes hu]
 · rw [stopF_no hu] at h1;rw [←h1];exact ⟨rfl,⟨_,h4⟩,h3.trans h5⟩
theorem VJ.done (hv:VJ B p sb h m proc r w0 [] W):UsesP B p sb h m r w0 (.returned (.bool true)) W:=by
 obtain ⟨seen,left,h1,h2,h3⟩:=hv;rw [←h1];exact ⟨rfl,⟨_,h2⟩,h3⟩
theorem VJ.ck {R:List Int} (hv:VJ B p sb h m proc r w0 R W):Ck B W p h m:=by
 obtain ⟨seen,left,h1,⟨lv,h2⟩,h3⟩:=hv;exact h2.ck
theorem VJ.gn {R:List Int} (hv:VJ B p sb h m proc r w0 R W):Gn B w0 W:=by
 obtain ⟨seen,left,h1,h2,h3⟩:=hv;exact h3
theorem VJ.below {R:List Int} {W':World} (hv:VJ B p sb h m proc r w0 R W) (hb:Below W.heap.size W W'):VJ B p sb h m proc r w0 R W':=by
 obtain ⟨seen,left,h1,⟨lv,h2⟩,h3⟩:=hv;exact ⟨seen,left,h1,⟨lv,h2.below hb⟩,h3.trans (Gn.of hb h2.leW)⟩
end
def restT (m:ModelD) (proc:Nat) (s:StmtD) (k:Nat):List Int:=
 if k=0 then topL m proc (decide (s.kind=1)) s.a ++ (topL m proc (decide (s.kind=2)) s.b ++ s.args) else if k=1 then topL m proc (decide (s.kind=2)) s.b ++ s.args else s.args
theorem topL_neg {m:ModelD} {proc:Nat} {whole:Bool} {x:Int} (h:x < 0):topL m proc whole x= []:=by unfold topL;rw [if_pos h]
theorem topL_run {m:ModelD} {proc:Nat} {whole:Bool} {x:Int} (h:¬x < 0) (h2:whole=true∧opAt m x=39∧ (proc:Int)≠m.claim):topL m proc whole x=argsAt m x:=by unfold topL;rw [if_neg h,if_pos h2]
theorem topL_one {m:ModelD} {proc:Nat} {whole:Bool} {x:Int} (h:¬x < 0) (h2:¬ (whole=true∧opAt m x=39∧ (proc:Int)≠m.claim)):topL m proc whole x= [x]:=by unfold topL;rw [if_neg h,if_neg h2]
theorem index2 (cs:Array Value) (k:Nat) (v:Value) (hk:k < 2) (w:World) (h:cs[k]? =some v): (Instr.index 170 (.agg cs) (.int .i64 (k:Int))).run Tryd.prog w= .ok v w:=by
 have hi: (0:Int)≤k∧ (k:Int) < 2:=by omega
 have hs:∀w,(sizeOf 3).run Tryd.prog w= .ok 1 w:=fun w=>by
  obtain ⟨i,hi,_,h1,_⟩:=info_parts info_int;simp [sizeOf,typeInfo,hi,h1,go_sem]
 simp [Instr.index,asIntOf,run_underlying Tryd.underlying170,hi,hs,go_sem];rw [if_pos hk,h];rfl
theorem index0 (a b:Value) (w:World): (Instr.index 170 (.agg #[a,b]) (.int .i64 0)).run Tryd.prog w= .ok a w:=index2 _ 0 _ (by decide) _ rfl
theorem index1 (a b:Value) (w:World): (Instr.index 170 (.agg #[a,b]) (.int .i64 1)).run Tryd.prog w= .ok b w:=index2 _ 1 _ (by decide) _ rfl
theorem drop_cons {α:Type} {l:List α} {j:Nat} (hj:j < l.length):l.drop j=l[j] :: l.drop (j+1):=List.drop_eq_getElem_cons hj
set_option maxHeartbeats 8000000 in
set_option maxRecDepth 100000 in
theorem usedByC {B p sb g a:Nat} {h:MH} {m:ModelD} {seen left:List Int} {s:StmtD} (proc:Nat) (w:World) (hj:UJ B p sb h m seen left w) (hx:EX m) (hproc:proc < m.procs.length) (hs:stmtAt B w g a s) (hg:g < B)
 (ha:s.a < m.exprs.length) (hb:s.b < m.exprs.length) (hargs:∀q ∈ s.args,0≤q∧q < m.exprs.length):
 Calls Tryd.prog 78 #[.pointer (some ⟨p,0,none⟩),.int .i64 proc,.pointer (some ⟨g,a,none⟩)] w (UsesP B p sb h m (usedByL m proc seen s) w):=by
 have HEX:=Lib.hid hx;have HARGS:=Lib.hid hargs;obtain ⟨lv,k⟩:=hj;have hB:B≤w.heap.size:=k.leW;obtain ⟨r,hr⟩:∃r,usedByL m proc seen s=r:=⟨_,rfl⟩;have HV0:Hid (VJ B p sb h m proc r w (restT m proc s 0) w):=Lib.hid ⟨seen,left,by rw [←hr];unfold usedByL topsL restT;rw [if_pos rfl,List.append_assoc],⟨lv,k⟩,Gn.refl _ _⟩;rw [hr];clear hr k hargs hx;have HS:=Lib.hid hs;obtain ⟨o1,p1,o2,p2,hsc,hr1,hr2⟩:=hs.sc;have c1:=hsc.c1;have c2:=hsc.c2;have hpl:m.procs.length≤140737488355328:=(HV0.out.ck).md.procs.1;have hproci: (proc:Int) < m.procs.length:=by omega
 have HSC:Hid (∀W,Below B w W→SC W g a s o1 p1 o2 p2∧Row B o1 1 (intAt W) s.args):=Lib.hid fun W hb=>by
  refine ⟨⟨(hb.cell hg).trans hsc.c0,(hb.cell hg).trans hsc.c1,(hb.cell hg).trans hsc.c2,(hb.cell hg).trans hsc.c3,(hb.cell hg).trans hsc.c4,(hb.cell hg).trans hsc.c5,(hb.cell hg).trans hsc.c6⟩,hr1.mono fun _ _ _ hg'=>intAt.below hb hg'⟩
 have hal:=hr1.1;clear hsc hr1 hr2 hs;have hgw:g < w.heap.size:=by omega
 obtain ⟨sa,hsa⟩:∃q,s.a=q:=⟨_,rfl⟩;obtain ⟨sb',hsb⟩:∃q,s.b=q:=⟨_,rfl⟩;obtain ⟨kd,hkd⟩:∃q,s.kind=q:=⟨_,rfl⟩;have HSA:=Lib.hid (And.intro hsa (And.intro hsb hkd));rw [hsa] at c1 ha;rw [hsb] at c2 hb;have HSCK:Hid (∀W,Below B w W→W.cell? ⟨g,a,none⟩=some (.int .i64 kd)):=Lib.hid fun W hb=>hkd ▸ (HSC.out W hb).1.c0
 clear hsa hsb hkd;have HST:Hid (∀w',Below w.heap.size w w'→ (Below w.heap.size w w'∧w'.cell? ⟨g,a+1,none⟩=some (.int .i64 sa)∧w'.cell? ⟨g,a+2,none⟩=some (.int .i64 sb'))):=Lib.hid fun w' hb=>⟨hb,(hb.cell hgw).trans c1,(hb.cell hgw).trans c2⟩
 have HEAT:Hid (∀ (k:Nat) (x:ExprD),m.exprs[k]? =some x→∃g2 off2,h.eo=some ⟨g2,off2,none⟩∧g2 < B∧∃o1 p1 o2 p2 o3 p3,∀W,Below B w W→XC W g2 (off2+k*12) x o1 p1 o2 p2 o3 p3∧Row B o2 1 (intAt W) x.args):=Lib.hid fun k x hget=>by
  obtain ⟨g2,off2,ho,hg2,hex⟩:=(HV0.out.ck).md.exprs.get hget;obtain ⟨o1,p1,o2,p2,o3,p3,hxc,hd1,hd2,hd3⟩:=hex.xc;exact ⟨g2,off2,ho,hg2,o1,p1,o2,p2,o3,p3,fun W hb=>⟨hxc.below hg2 hb,hd2.mono fun _ _ _ hg'=>intAt.below hb hg'⟩⟩
 go_enter Tryd.func78,Tryd.ntmps78;clear c1 c2;go_wp2_with fail;have h1:=HST.out _ (Below.refl _ w)
 go_region_held3 (fun w'=>Below w.heap.size w w'∧w'.cell? ⟨g,a+1,none⟩=some (.int .i64 sa)∧w'.cell? ⟨g,a+2,none⟩=some (.int .i64 sb'))
  (first | assumption | with_reducible exact HST.out _ (Below.refl _ _).drew | with_reducible exact HST.out _ (by assumption) | with_reducible exact HST.out _ (Below.alloc (And.left (by assumption)) (Below.size (And.left (by assumption))) _) | with_reducible exact HST.out _ (Below.drew (Below.alloc (Below.refl _ _) (Nat.le_refl _) _)))
  (fail)
 clear h1;have HP:=Lib.hid (HV0.out.below ((ball (Obj.cells #[.int .i64 sa,.int .i64 sb'] 170)).drew));have HBX:Hid ((w.alloc (Obj.cells #[.int .i64 sa,.int .i64 sb'] 170)).drew.heap[w.heap.size]? =some (.cells #[.int .i64 sa,.int .i64 sb'] 170 (0,0))):=Lib.hid (heap_alloc_new _ _);generalize (w.alloc (Obj.cells #[.int .i64 sa,.int .i64 sb'] 170)).drew=W0 at HP HBX ⊢;have t0:W0.cell? ⟨w.heap.size,0,none⟩=some (.int .i64 sa):=(cell_of_row _ _ _ _ _ _ HBX.out).trans rfl;have t1:W0.cell? ⟨w.heap.size,1,none⟩=some (.int .i64 sb'):=(cell_of_row _ _ _ _ _ _ HBX.out).trans rfl;go_wp2_with fail;clear t0 t1
 go_loopw [25] (fun iv W=>∃k:Nat,iv= .int .i64 k∧k≤2∧Hid (VJ B p sb h m proc r w (restT m proc s k) W)) (fun iv _=>2 - (intOf iv).toNat)
 case atStart=>exact ⟨0,rfl,by omega,HP⟩
 case round=>
  clear HP HBX;obtain ⟨k,rfl,hk,HJ⟩:=hrel;have HCK:=Lib.hid HJ.out.ck;rcases (show k=0∨k=1∨k=2 by omega) with rfl | rfl | rfl
  · have HRE:Hid (restT m proc s 0=topL m proc (decide (s.kind=1)) s.a ++ restT m proc s 1):=Lib.hid rfl;by_cases hneg:sa < 0
    · have HN:Hid (VJ B p sb h m proc r w (restT m proc s 1) wr):=Lib.hid (by have:=HJ.out;rw [HRE.out,topL_neg (by rw [HSA.out.1];exact hneg)] at this;exact this);have hix:∀w,(Instr.index 170 (.agg #[.int .i64 sa,.int .i64 sb']) (.int .i64 0)).run Tryd.prog w= .ok (.int .i64 sa) w:=index0 _ _;go_wp2_with fail;go_roundw;case rel=>exact ⟨1,by go_num,by omega,HN⟩
      case measure=>simp [intOf]
    · obtain ⟨kx,hkx⟩:∃kx:Nat,sa=kx:=⟨sa.toNat,by omega⟩;have HKX:=Lib.hid hkx;rw [hkx] at ha ⊢;have hix:∀w,(Instr.index 170 (.agg #[.int .i64 kx,.int .i64 sb']) (.int .i64 0)).run Tryd.prog w= .ok (.int .i64 kx) w:=index0 _ _;have hkn:kx < m.exprs.length:=by omega
      have hki: (kx:Int) < m.exprs.length:=by omega
      have hkz: (0:Int)≤kx:=by omega
      have hkz2:¬ (kx:Int) < 0:=by omega
      obtain ⟨x,hget⟩:∃x,m.exprs[kx]? =some x:=⟨_,List.getElem?_eq_getElem hkn⟩;have HSF:Hid (s.a=kx):=Lib.hid (HSA.out.1.trans hkx);have HOP:Hid (opAt m s.a=x.op∧argsAt m s.a=x.args):=Lib.hid (by unfold opAt argsAt;rw [HSF.out,Int.toNat_natCast,hget];exact ⟨rfl,rfl⟩);have HXO:=Lib.hid (HEX.out.ok kx x hget);obtain ⟨g2,off2,ho,hg2,o1',p1',o2',p2',o3',p3',hxc⟩:=HEAT.out kx x hget;have HXC:=Lib.hid hxc;have hxr:=HXC.out wr HJ.out.gn.bel;have d0:=hxr.1.c0;have d10:=hxr.1.c6;have hal2:=hxr.2.1;have d6:wr.cell? ⟨p,6,none⟩=some (.slice (some ⟨g2,off2,none⟩) m.exprs.length h.ec):=by rw [←ho];exact HCK.out.c6
      have d5:wr.cell? ⟨p,5,none⟩=some (.int .i64 m.claim):=HCK.out.c5;have e0:=HSCK.out wr HJ.out.gn.bel;clear hxc hxr hget ho hkx;have HNEG:Hid (¬s.a < 0):=Lib.hid (by rw [HSF.out];omega);clear hneg;by_cases q1:kd=1
      · have b1: (kd == 1)=true:=by rw [beq_iff_eq];exact q1
        have b2: (kd == 2)=false:=by rw [q1];rfl
        have HWH:Hid (decide (s.kind=1)=true):=Lib.hid (decide_eq_true (HSA.out.2.2.trans q1));clear q1;by_cases p39:x.op=39
        · have b39: (x.op == 39)=true:=by rw [p39];rfl
          by_cases hcl: (proc:Int)=m.claim
          · have hcb: ((proc:Int) != m.claim)=false:=by rw [bne_eq_false_iff_eq];exact hcl
            have HCL:=Lib.hid hcl;clear hcl p39;have HN1:Hid (VJ B p sb h m proc r w ((kx:Int) :: restT m proc s 1) wr):=Lib.hid (by have:=HJ.out;rw [HRE.out,topL_one HNEG.out (fun h=>h.2.2 HCL.out),HSF.out] at this;exact this);go_wp2_with fail;clear d0 d10 d6 d5 e0;refine (usesV HN1.out HEX.out hproc ⟨hkz,hki⟩).mono ?_;rintro e W2 ⟨u,rfl,hy,hn⟩;have HY:=Lib.hid hy;have HN:=Lib.hid hn;clear hy hn;cases u
            · have HZ:=Lib.hid (HN.out rfl);go_wp2_with fail;go_ret;exact HZ.out
            · have HZ:=Lib.hid (HY.out rfl);go_wp2_with fail;go_roundw;case rel=>exact ⟨1,by go_num,by omega,HZ⟩
              case measure=>simp [intOf]
          · have hcb: ((proc:Int) != m.claim)=true:=by rw [bne_iff_ne];exact hcl
            have HRUN:Hid (VJ B p sb h m proc r w (x.args.drop 0 ++ restT m proc s 1) wr):=Lib.hid (by have:=HJ.out;rw [HRE.out,topL_run HNEG.out ⟨HWH.out,by rw [HOP.out.1];exact p39,hcl⟩,HOP.out.2] at this;exact this);have HRA:Hid (∀q ∈ x.args,0≤q∧q < m.exprs.length):=Lib.hid fun q hq=>by
             have:=HXO.out.2 q (by unfold partsL moreL;rw [if_neg (by omega),if_pos (.inr p39)];exact List.mem_append_right _ hq);omega
            clear hcl p39;go_wp2_with fail;clear d0 d10 d6 d5 e0
            go_loopw [83] (fun iv W=>∃j:Nat,iv= .int .i64 j∧j≤x.args.length∧Hid (VJ B p sb h m proc r w (x.args.drop j ++ restT m proc s 1) W)) (fun iv _=>x.args.length - (intOf iv).toNat)
            case atStart=>exact ⟨0,rfl,by omega,HRUN⟩
            case round=>
             clear HRUN HJ;obtain ⟨j,rfl,hj,HJ⟩:=hrel;have hj0: (0:Int)≤j:=by omega
             by_cases hlt:j < x.args.length
             · have hlti: (j:Int) < x.args.length:=by omega
               obtain ⟨gr,offr,hor,hgr,hcell⟩:=(HXC.out _ HJ.out.gn.bel).2.cell hlt;obtain ⟨q,hq⟩:∃q,x.args[j]=q:=⟨_,rfl⟩;have HQR:=Lib.hid (HRA.out q (by rw [←hq];exact List.getElem_mem hlt));have HN1:Hid (VJ B p sb h m proc r w (q :: (x.args.drop (j+1) ++ restT m proc s 1)) wr):=Lib.hid (by have:=HJ.out;rw [drop_cons hlt,hq] at this;exact this);have hcd2:wr.cell? ⟨gr,offr+j,none⟩=some (.int .i64 q):=by unfold intAt at hcell;rw [Nat.mul_one,hq] at hcell;exact hcell
               subst hor;clear hgr hq hcell;go_wp2_with fail;clear hcd2;refine (usesV HN1.out HEX.out hproc HQR.out).mono ?_;rintro e W2 ⟨u,rfl,hy,hn⟩;have HY:=Lib.hid hy;have HN:=Lib.hid hn;clear hy hn;cases u
               · have HZ:=Lib.hid (HN.out rfl);go_wp2_with fail;go_ret;exact HZ.out
               · have HZ:=Lib.hid (HY.out rfl);go_wp2_with fail;go_roundw;case rel=>exact ⟨j+1,by go_num,by omega,HZ⟩
                 case measure=>simp [intOf];omega
             · have hlti:¬ (j:Int) < x.args.length:=by omega
               have HZ:Hid (VJ B p sb h m proc r w (restT m proc s 1) wr):=Lib.hid (by have:=HJ.out;rw [List.drop_of_length_le (by omega)] at this;exact this);go_wp2_with fail;go_roundw;case rel=>exact ⟨1,by go_num,by omega,HZ⟩
               case measure=>simp [intOf]
        · have b39: (x.op == 39)=false:=by rw [beq_eq_false_iff_ne];exact p39
          have HP39:=Lib.hid p39;clear p39;have HN1:Hid (VJ B p sb h m proc r w ((kx:Int) :: restT m proc s 1) wr):=Lib.hid (by have:=HJ.out;rw [HRE.out,topL_one HNEG.out (fun h=>HP39.out (by rw [←HOP.out.1];exact h.2.1)),HSF.out] at this;exact this);go_wp2_with fail;clear d0 d10 d6 d5 e0;refine (usesV HN1.out HEX.out hproc ⟨hkz,hki⟩).mono ?_;rintro e W2 ⟨u,rfl,hy,hn⟩;have HY:=Lib.hid hy;have HN:=Lib.hid hn;clear hy hn;cases u
          · have HZ:=Lib.hid (HN.out rfl);go_wp2_with fail;go_ret;exact HZ.out
          · have HZ:=Lib.hid (HY.out rfl);go_wp2_with fail;go_roundw;case rel=>exact ⟨1,by go_num,by omega,HZ⟩
            case measure=>simp [intOf]
      · have b1: (kd == 1)=false:=by rw [beq_eq_false_iff_ne];exact q1
        have HWH:Hid (decide (s.kind=1)=false):=Lib.hid (decide_eq_false (by rw [HSA.out.2.2];exact q1));obtain ⟨u2,b2⟩:∃u,(kd == 2)=u:=⟨_,rfl⟩;clear q1;cases u2
        · have HN1:Hid (VJ B p sb h m proc r w ((kx:Int) :: restT m proc s 1) wr):=Lib.hid (by have:=HJ.out;rw [HRE.out,topL_one HNEG.out (fun h=>by rw [HWH.out] at h;cases h.1),HSF.out] at this;exact this);go_wp2_with fail;clear d0 d10 d6 d5 e0;refine (usesV HN1.out HEX.out hproc ⟨hkz,hki⟩).mono ?_;rintro e W2 ⟨u,rfl,hy,hn⟩;have HY:=Lib.hid hy;have HN:=Lib.hid hn;clear hy hn;cases u
          · have HZ:=Lib.hid (HN.out rfl);go_wp2_with fail;go_ret;exact HZ.out
          · have HZ:=Lib.hid (HY.out rfl);go_wp2_with fail;go_roundw;case rel=>exact ⟨1,by go_num,by omega,HZ⟩
            case measure=>simp [intOf]
        · have HN1:Hid (VJ B p sb h m proc r w ((kx:Int) :: restT m proc s 1) wr):=Lib.hid (by have:=HJ.out;rw [HRE.out,topL_one HNEG.out (fun h=>by rw [HWH.out] at h;cases h.1),HSF.out] at this;exact this);go_wp2_with fail;clear d0 d10 d6 d5 e0;refine (usesV HN1.out HEX.out hproc ⟨hkz,hki⟩).mono ?_;rintro e W2 ⟨u,rfl,hy,hn⟩;have HY:=Lib.hid hy;have HN:=Lib.hid hn;clear hy hn;cases u
          · have HZ:=Lib.hid (HN.out rfl);go_wp2_with fail;go_ret;exact HZ.out
          · have HZ:=Lib.hid (HY.out rfl);go_wp2_with fail;go_roundw;case rel=>exact ⟨1,by go_num,by omega,HZ⟩
            case measure=>simp [intOf]
  · have HRE:Hid (restT m proc s 1=topL m proc (decide (s.kind=2)) s.b ++ restT m proc s 2):=Lib.hid rfl;by_cases hneg:sb' < 0
    · have HN:Hid (VJ B p sb h m proc r w (restT m proc s 2) wr):=Lib.hid (by have:=HJ.out;rw [HRE.out,topL_neg (by rw [HSA.out.2.1];exact hneg)] at this;exact this);have hix:∀w,(Instr.index 170 (.agg #[.int .i64 sa,.int .i64 sb']) (.int .i64 1)).run Tryd.prog w= .ok (.int .i64 sb') w:=index1 _ _;go_wp2_with fail;go_roundw;case rel=>exact ⟨2,by go_num,by omega,HN⟩
      case measure=>simp [intOf]
    · obtain ⟨kx,hkx⟩:∃kx:Nat,sb'=kx:=⟨sb'.toNat,by omega⟩;have HKX:=Lib.hid hkx;rw [hkx] at hb ⊢;have hix:∀w,(Instr.index 170 (.agg #[.int .i64 sa,.int .i64 kx]) (.int .i64 1)).run Tryd.prog w= .ok (.int .i64 kx) w:=index1 _ _;have hkn:kx < m.exprs.length:=by omega
      have hki: (kx:Int) < m.exprs.length:=by omega
      have hkz: (0:Int)≤kx:=by omega
      have hkz2:¬ (kx:Int) < 0:=by omega
      obtain ⟨x,hget⟩:∃x,m.exprs[kx]? =some x:=⟨_,List.getElem?_eq_getElem hkn⟩;have HSF:Hid (s.b=kx):=Lib.hid (HSA.out.2.1.trans hkx);have HOP:Hid (opAt m s.b=x.op∧argsAt m s.b=x.args):=Lib.hid (by unfold opAt argsAt;rw [HSF.out,Int.toNat_natCast,hget];exact ⟨rfl,rfl⟩);have HXO:=Lib.hid (HEX.out.ok kx x hget);obtain ⟨g2,off2,ho,hg2,o1',p1',o2',p2',o3',p3',hxc⟩:=HEAT.out kx x hget;have HXC:=Lib.hid hxc;have hxr:=HXC.out wr HJ.out.gn.bel;have d0:=hxr.1.c0;have d10:=hxr.1.c6;have hal2:=hxr.2.1;have d6:wr.cell? ⟨p,6,none⟩=some (.slice (some ⟨g2,off2,none⟩) m.exprs.length h.ec):=by rw [←ho];exact HCK.out.c6
      have d5:wr.cell? ⟨p,5,none⟩=some (.int .i64 m.claim):=HCK.out.c5;have e0:=HSCK.out wr HJ.out.gn.bel;clear hxc hxr hget ho hkx;have HNEG:Hid (¬s.b < 0):=Lib.hid (by rw [HSF.out];omega);clear hneg;by_cases q1:kd=2
      · have b1: (kd == 2)=true:=by rw [beq_iff_eq];exact q1
        have b2: (kd == 1)=false:=by rw [q1];rfl
        have HWH:Hid (decide (s.kind=2)=true):=Lib.hid (decide_eq_true (HSA.out.2.2.trans q1));clear q1;by_cases p39:x.op=39
        · have b39: (x.op == 39)=true:=by rw [p39];rfl
          by_cases hcl: (proc:Int)=m.claim
          · have hcb: ((proc:Int) != m.claim)=false:=by rw [bne_eq_false_iff_eq];exact hcl
            have HCL:=Lib.hid hcl;clear hcl p39;have HN1:Hid (VJ B p sb h m proc r w ((kx:Int) :: restT m proc s 2) wr):=Lib.hid (by have:=HJ.out;rw [HRE.out,topL_one HNEG.out (fun h=>h.2.2 HCL.out),HSF.out] at this;exact this);go_wp2_with fail;clear d0 d10 d6 d5 e0;refine (usesV HN1.out HEX.out hproc ⟨hkz,hki⟩).mono ?_;rintro e W2 ⟨u,rfl,hy,hn⟩;have HY:=Lib.hid hy;have HN:=Lib.hid hn;clear hy hn;cases u
            · have HZ:=Lib.hid (HN.out rfl);go_wp2_with fail;go_ret;exact HZ.out
            · have HZ:=Lib.hid (HY.out rfl);go_wp2_with fail;go_roundw;case rel=>exact ⟨2,by go_num,by omega,HZ⟩
              case measure=>simp [intOf]
          · have hcb: ((proc:Int) != m.claim)=true:=by rw [bne_iff_ne];exact hcl
            have HRUN:Hid (VJ B p sb h m proc r w (x.args.drop 0 ++ restT m proc s 2) wr):=Lib.hid (by have:=HJ.out;rw [HRE.out,topL_run HNEG.out ⟨HWH.out,by rw [HOP.out.1];exact p39,hcl⟩,HOP.out.2] at this;exact this);have HRA:Hid (∀q ∈ x.args,0≤q∧q < m.exprs.length):=Lib.hid fun q hq=>by
             have:=HXO.out.2 q (by unfold partsL moreL;rw [if_neg (by omega),if_pos (.inr p39)];exact List.mem_append_right _ hq);omega
            clear hcl p39;go_wp2_with fail;clear d0 d10 d6 d5 e0
            go_loopw [83] (fun iv W=>∃j:Nat,iv= .int .i64 j∧j≤x.args.length∧Hid (VJ B p sb h m proc r w (x.args.drop j ++ restT m proc s 2) W)) (fun iv _=>x.args.length - (intOf iv).toNat)
            case atStart=>exact ⟨0,rfl,by omega,HRUN⟩
            case round=>
             clear HRUN HJ;obtain ⟨j,rfl,hj,HJ⟩:=hrel;have hj0: (0:Int)≤j:=by omega
             by_cases hlt:j < x.args.length
             · have hlti: (j:Int) < x.args.length:=by omega
               obtain ⟨gr,offr,hor,hgr,hcell⟩:=(HXC.out _ HJ.out.gn.bel).2.cell hlt;obtain ⟨q,hq⟩:∃q,x.args[j]=q:=⟨_,rfl⟩;have HQR:=Lib.hid (HRA.out q (by rw [←hq];exact List.getElem_mem hlt));have HN1:Hid (VJ B p sb h m proc r w (q :: (x.args.drop (j+1) ++ restT m proc s 2)) wr):=Lib.hid (by have:=HJ.out;rw [drop_cons hlt,hq] at this;exact this);have hcd2:wr.cell? ⟨gr,offr+j,none⟩=some (.int .i64 q):=by unfold intAt at hcell;rw [Nat.mul_one,hq] at hcell;exact hcell
               subst hor;clear hgr hq hcell;go_wp2_with fail;clear hcd2;refine (usesV HN1.out HEX.out hproc HQR.out).mono ?_;rintro e W2 ⟨u,rfl,hy,hn⟩;have HY:=Lib.hid hy;have HN:=Lib.hid hn;clear hy hn;cases u
               · have HZ:=Lib.hid (HN.out rfl);go_wp2_with fail;go_ret;exact HZ.out
               · have HZ:=Lib.hid (HY.out rfl);go_wp2_with fail;go_roundw;case rel=>exact ⟨j+1,by go_num,by omega,HZ⟩
                 case measure=>simp [intOf];omega
             · have hlti:¬ (j:Int) < x.args.length:=by omega
               have HZ:Hid (VJ B p sb h m proc r w (restT m proc s 2) wr):=Lib.hid (by have:=HJ.out;rw [List.drop_of_length_le (by omega)] at this;exact this);go_wp2_with fail;go_roundw;case rel=>exact ⟨2,by go_num,by omega,HZ⟩
               case measure=>simp [intOf]
        · have b39: (x.op == 39)=false:=by rw [beq_eq_false_iff_ne];exact p39
          have HP39:=Lib.hid p39;clear p39;have HN1:Hid (VJ B p sb h m proc r w ((kx:Int) :: restT m proc s 2) wr):=Lib.hid (by have:=HJ.out;rw [HRE.out,topL_one HNEG.out (fun h=>HP39.out (by rw [←HOP.out.1];exact h.2.1)),HSF.out] at this;exact this);go_wp2_with fail;clear d0 d10 d6 d5 e0;refine (usesV HN1.out HEX.out hproc ⟨hkz,hki⟩).mono ?_;rintro e W2 ⟨u,rfl,hy,hn⟩;have HY:=Lib.hid hy;have HN:=Lib.hid hn;clear hy hn;cases u
          · have HZ:=Lib.hid (HN.out rfl);go_wp2_with fail;go_ret;exact HZ.out
          · have HZ:=Lib.hid (HY.out rfl);go_wp2_with fail;go_roundw;case rel=>exact ⟨2,by go_num,by omega,HZ⟩
            case measure=>simp [intOf]
      · have b1: (kd == 2)=false:=by rw [beq_eq_false_iff_ne];exact q1
        have HWH:Hid (decide (s.kind=2)=false):=Lib.hid (decide_eq_false (by rw [HSA.out.2.2];exact q1));obtain ⟨u2,b2⟩:∃u,(kd == 1)=u:=⟨_,rfl⟩;clear q1;cases u2
        · have HN1:Hid (VJ B p sb h m proc r w ((kx:Int) :: restT m proc s 2) wr):=Lib.hid (by have:=HJ.out;rw [HRE.out,topL_one HNEG.out (fun h=>by rw [HWH.out] at h;cases h.1),HSF.out] at this;exact this);go_wp2_with fail;clear d0 d10 d6 d5 e0;refine (usesV HN1.out HEX.out hproc ⟨hkz,hki⟩).mono ?_;rintro e W2 ⟨u,rfl,hy,hn⟩;have HY:=Lib.hid hy;have HN:=Lib.hid hn;clear hy hn;cases u
          · have HZ:=Lib.hid (HN.out rfl);go_wp2_with fail;go_ret;exact HZ.out
          · have HZ:=Lib.hid (HY.out rfl);go_wp2_with fail;go_roundw;case rel=>exact ⟨2,by go_num,by omega,HZ⟩
            case measure=>simp [intOf]
        · have HN1:Hid (VJ B p sb h m proc r w ((kx:Int) :: restT m proc s 2) wr):=Lib.hid (by have:=HJ.out;rw [HRE.out,topL_one HNEG.out (fun h=>by rw [HWH.out] at h;cases h.1),HSF.out] at this;exact this);go_wp2_with fail;clear d0 d10 d6 d5 e0;refine (usesV HN1.out HEX.out hproc ⟨hkz,hki⟩).mono ?_;rintro e W2 ⟨u,rfl,hy,hn⟩;have HY:=Lib.hid hy;have HN:=Lib.hid hn;clear hy hn;cases u
          · have HZ:=Lib.hid (HN.out rfl);go_wp2_with fail;go_ret;exact HZ.out
          · have HZ:=Lib.hid (HY.out rfl);go_wp2_with fail;go_roundw;case rel=>exact ⟨2,by go_num,by omega,HZ⟩
            case measure=>simp [intOf]
  · have HN:Hid (VJ B p sb h m proc r w (s.args.drop 0) wr):=Lib.hid HJ.out;have e4:=(HSC.out wr HJ.out.gn.bel).1.c4;clear HJ;rw [show ((2:Nat):Int)=2 from rfl];go_wp2_with fail;clear e4
    go_loopw [104] (fun iv W=>∃j:Nat,iv= .int .i64 j∧j≤s.args.length∧Hid (VJ B p sb h m proc r w (s.args.drop j) W)) (fun iv _=>s.args.length - (intOf iv).toNat)
    case atStart=>exact ⟨0,rfl,by omega,HN⟩
    case round=>
     clear HN;obtain ⟨j,rfl,hj,HJ⟩:=hrel;have hj0: (0:Int)≤j:=by omega
     by_cases hlt:j < s.args.length
     · have hlti: (j:Int) < s.args.length:=by omega
       obtain ⟨gr,offr,hor,hgr,hcell⟩:=(HSC.out _ HJ.out.gn.bel).2.cell hlt;obtain ⟨q,hq⟩:∃q,s.args[j]=q:=⟨_,rfl⟩;have HQR:=Lib.hid (HARGS.out q (by rw [←hq];exact List.getElem_mem hlt));have HN1:Hid (VJ B p sb h m proc r w (q :: s.args.drop (j+1)) wr):=Lib.hid (by have:=HJ.out;rw [drop_cons hlt,hq] at this;exact this);have hcd2:wr.cell? ⟨gr,offr+j,none⟩=some (.int .i64 q):=by unfold intAt at hcell;rw [Nat.mul_one,hq] at hcell;exact hcell
       subst hor;clear hgr hq hcell;go_wp2_with fail;clear hcd2;refine (usesV HN1.out HEX.out hproc HQR.out).mono ?_;rintro e W2 ⟨u,rfl,hy,hn⟩;have HY:=Lib.hid hy;have HN:=Lib.hid hn;clear hy hn;cases u
       · have HZ:=Lib.hid (HN.out rfl);go_wp2_with fail;go_ret;exact HZ.out
       · have HZ:=Lib.hid (HY.out rfl);go_wp2_with fail;go_roundw;case rel=>exact ⟨j+1,by go_num,by omega,HZ⟩
         case measure=>simp [intOf];omega
     · have hlti:¬ (j:Int) < s.args.length:=by omega
       have HZ:Hid (VJ B p sb h m proc r w [] wr):=Lib.hid (by have:=HJ.out;rw [List.drop_of_length_le (by omega)] at this;exact this);have HZ2:=Lib.hid HZ.out.done;go_wp2_with fail;go_ret;exact HZ2.out
end Go.Proofs.YtnoibjahliafpaaDoor
