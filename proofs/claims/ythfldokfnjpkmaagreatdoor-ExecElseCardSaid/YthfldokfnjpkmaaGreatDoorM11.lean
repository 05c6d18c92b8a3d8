/- What a statement of a proctype uses. -/
import Derived.Test.YthfldokfnjpkmaaGreatDoorM10
set_option linter.unusedVariables false
set_option linter.unusedSimpArgs false
namespace Go.Proofs.YthfldokfnjpkmaaGreatDoor
open Go.ChangeShapes Go.WideShapes Go.ChangeAt Go.RowKit
theorem stopF_no {σ α:Type} {f:σ→α→Bool × σ} {x:α} {r:List α} {s:σ} (h: (f s x).1=false):stopF f (x :: r) s= (false,(f s x).2):=by
 unfold stopF;rw [h];rfl
theorem stopF_yes {σ α:Type} {f:σ→α→Bool × σ} {x:α} {r:List α} {s:σ} (h: (f s x).1=true):stopF f (x :: r) s=stopF f r (f s x).2:=by
 rw [stopF,if_pos h]
theorem stopF_app {σ α:Type} {f:σ→α→Bool × σ}:∀ (a b:List α) (s:σ),stopF f (a ++ b) s=if (stopF f a s).1=true then stopF f b (stopF f a s).2 else stopF f a s
 | [],b,s=>by simp [stopF]
 | x :: a,b,s=>by
   rw [List.cons_append];by_cases h: (f s x).1=true
   · rw [stopF_yes h,stopF_yes h,stopF_app a b]
   · have h': (f s x).1=false:=by simpa using h
     rw [stopF_no h',stopF_no h'];rfl
def VJ (B p sb:Nat) (h:MH) (m:ModelD) (proc:Nat) (r:Bool × List Int) (w0:World) (R:List Int) (W:World):Prop:=
 ∃seen left,stopF (usesL m proc) R seen=r∧UJ B p sb h m seen left W∧Gn B w0 W
def VStep (B p sb:Nat) (h:MH) (m:ModelD) (proc:Nat) (r:Bool × List Int) (w0:World) (R:List Int) (e:Ending) (W:World):Prop:=
 ∃u,e= .returned (.bool u)∧ (u=true→VJ B p sb h m proc r w0 R W)∧ (u=false→UsesP B p sb h m r w0 (.returned (.bool false)) W)
section
variable {B p sb:Nat} {h:MH} {m:ModelD} {proc:Nat} {r:Bool × List Int} {w0 W:World}
theorem usesV {q:Int} {R:List Int} (hv:VJ B p sb h m proc r w0 (q :: R) W) (hx:EX m) (hproc:proc < m.procs.length) (hq:0≤q∧q < m.exprs.length):
 Calls Tryz.prog 178 #[.pointer (some ⟨p,0,none⟩),.int .i64 proc,.int .i64 q] W (VStep B p sb h m proc r w0 R):=by
 obtain ⟨k,rfl⟩:∃k:Nat,q=k:=⟨q.toNat,by omega⟩;obtain ⟨seen,left,h1,h2,h3⟩:=hv;refine (usesC proc k W h2 hx hproc (by omega)).mono ?_;rintro e W' ⟨rfl,⟨left',h4⟩,h5⟩;refine ⟨_,rfl,fun hu=>⟨_,_, ?_,h4,h3.trans h5⟩,fun hu=> ?_⟩
 · rw [←h1,stopF_yes hu]
 · rw [stopF_no hu] at h1;rw [←h1];exact ⟨rfl,⟨_,h4⟩,h3.trans h5⟩
theorem VJ.done (hv:VJ B p sb h m proc r w0 [] W):UsesP B p sb h m r w0 (.returned (.bool true)) W:=by
 obtain ⟨seen,left,h1,h2,h3⟩:=hv;rw [←h1];exact ⟨rfl,⟨_,h2⟩,h3⟩
theorem VJ.ck {R:List Int} (hv:VJ B p sb h m proc r w0 R W):Ck B W p h m:=by
 obtain ⟨seen,left,h1,⟨lv,h2⟩,h3⟩:=hv;exact h2.ck
theorem VJ.gn {R:List Int} (hv:VJ B p sb h m proc r w0 R W):Gn B w0 W:=by
 obtain ⟨seen,left,h1,h2,h3⟩:=hv;exact h3
theorem VJ.below {R:List Int} {W':World} (hv:VJ B p sb h m proc r w0 R W) (hb:Below W.heap.size W W'):VJ B p sb h m proc r w0 R W':=by
 obtain ⟨seen,left,h1,⟨lv,h2⟩,h3⟩:=hv;exact ⟨seen,left,h1,⟨lv,h2.below hb⟩,h3.trans (Gn.of hb h2.leW)⟩
end
def restT (m:ModelD) (proc:Nat) (s:StmtD) (k:Nat):List Int:=
 if k=0 then topL m proc (decide (s.kind=1)) s.a ++ (topL m proc (decide (s.kind=2)) s.b ++ s.args) else if k=1 then topL m proc (decide (s.kind=2)) s.b ++ s.args else s.args
theorem topL_neg {m:ModelD} {proc:Nat} {whole:Bool} {x:Int} (h:x < 0):topL m proc whole x= []:=by unfold topL;rw [if_pos h]
theorem topL_run {m:ModelD} {proc:Nat} {whole:Bool} {x:Int} (h:¬x < 0) (h2:whole=true∧opAt m x=39∧ (proc:Int)≠m.claim):topL m proc whole x=argsAt m x:=by unfold topL;rw [if_neg h,if_pos h2]
theorem topL_one {m:ModelD} {proc:Nat} {whole:Bool} {x:Int} (h:¬x < 0) (h2:¬ (whole=true∧opAt m x=39∧ (proc:Int)≠m.claim)):topL m proc whole x= [x]:=by unfold topL;rw [if_neg h,if_neg h2]
theorem index2 (cs:Array Value) (k:Nat) (v:Value) (hk:k < 2) (w:World) (h:cs[k]? =some v): (Instr.index 283 (.agg cs) (.int .i64 (k:Int))).run Tryz.prog w= .ok v w:=by
 have hi: (0:Int)≤k∧ (k:Int) < 2:=by omega
 have hs:∀w,(sizeOf 3).run Tryz.prog w= .ok 1 w:=fun w=>by
  obtain ⟨i,hi,_,h1,_⟩:=info_parts info_int;simp [sizeOf,typeInfo,hi,h1,go_sem]
 simp [Instr.index,asIntOf,run_underlying Tryz.underlying283,hi,hs,go_sem];rw [if_pos hk,h];rfl
theorem index0 (a b:Value) (w:World): (Instr.index 283 (.agg #[a,b]) (.int .i64 0)).run Tryz.prog w= .ok a w:=index2 _ 0 _ (by decide) _ rfl
theorem index1 (a b:Value) (w:World): (Instr.index 283 (.agg #[a,b]) (.int .i64 1)).run Tryz.prog w= .ok b w:=index2 _ 1 _ (by decide) _ rfl
theorem drop_cons {α:Type} {l:List α} {j:Nat} (hj:j < l.length):l.drop j=l[j] :: l.drop (j+1):=List.drop_eq_getElem_cons hj
set_option maxHeartbeats 8000000 in
set_option maxRecDepth 100000 in
theorem usedByC {B p sb g a:Nat} {h:MH} {m:ModelD} {seen left:List Int} {s:StmtD} (proc:Nat) (w:World) (hj:UJ B p sb h m seen left w) (hx:EX m) (hproc:proc < m.procs.length) (hs:stmtAt B w g a s) (hg:g < B)
 (ha:s.a < m.exprs.length) (hb:s.b < m.exprs.length) (hargs:∀q ∈ s.args,0≤q∧q < m.exprs.length):
 Calls Tryz.prog 198 #[.pointer (some ⟨p,0,none⟩),.int .i64 proc,.pointer (some ⟨g,a,none⟩)] w (UsesP B p sb h m (usedByL m proc seen s) w):=by
 have HEX:=Lib.hid hx;have HARGS:=Lib.hid hargs;obtain ⟨lv,k⟩:=hj;have hB:B≤w.heap.size:=k.leW;obtain ⟨r,hr⟩:∃r,usedByL m proc seen s=r:=⟨_,rfl⟩;have HV0:Hid (VJ B p sb h m proc r w (restT m proc s 0) w):=Lib.hid ⟨seen,left,by rw [←hr];unfold usedByL topsL restT;rw [if_pos rfl,List.append_assoc],⟨lv,k⟩,Gn.refl _ _⟩;rw [hr];clear hr k hargs hx;have HS:=Lib.hid hs;obtain ⟨o1,p1,o2,p2,hsc,hr1,hr2⟩:=hs.sc;have c1:=hsc.c1;have c2:=hsc.c2;have hpl:m.procs.length≤140737488355328:=(HV0.out.ck).md.procs.1;have hproci: (proc:Int) < m.procs.length:=by omega
 have HSC:Hid (∀W,Below B w W→SC W g a s o1 p1 o2 p2∧Row B o1 1 (intAt W) s.args):=Lib.hid fun W hb=>by
  refine ⟨⟨(hb.cell hg).trans hsc.c0,(hb.cell hg).trans hsc.c1,(hb.cell hg).trans hsc.c2,(hb.cell hg).trans hsc.c3,(hb.cell hg).trans hsc.c4,(hb.cell hg).trans hsc.c5,(hb.cell hg).trans hsc.c6⟩,hr1.mono fun _ _ _ hg'=>intAt.below hb hg'⟩
 have hal:=hr1.1;clear hsc hr1 hr2 hs;have hgw:g < w.heap.size:=by omega
 obtain ⟨sa,hsa⟩:∃q,s.a=q:=⟨_,rfl⟩;obtain ⟨sb',hsb⟩:∃q,s.b=q:=⟨_,rfl⟩;obtain ⟨kd,hkd⟩:∃q,s.kind=q:=⟨_,rfl⟩;have HSA:=Lib.hid (And.intro hsa (And.intro hsb hkd));rw [hsa] at c1 ha;rw [hsb] at c2 hb;have HSCK:Hid (∀W,Below B w W→W.cell? ⟨g,a,none⟩=some (.int .i64 kd)):=Lib.hid fun W hb=>hkd ▸ (HSC.out W hb).1.c0
 clear hsa hsb hkd;have HST:Hid (∀w',Below w.heap.size w w'→ (Below w.heap.size w w'∧w'.cell? ⟨g,a+1,none⟩=some (.int .i64 sa)∧w'.cell? ⟨g,a+2,none⟩=some (.int .i64 sb'))):=Lib.hid fun w' hb=>⟨hb,(hb.cell hgw).trans c1,(hb.cell hgw).trans c2⟩
 have HEAT:Hid (∀ (k:Nat) (x:ExprD),m.exprs[k]? =some x→∃g2 off2,h.eo=some ⟨g2,off2,none⟩∧g2 < B∧∃o1 p1 o2 p2 o3 p3,∀W,Below B w W→XC W g2 (off2+k*12) x o1 p1 o2 p2 o3 p3∧Row B o2 1 (intAt W) x.args):=Lib.hid fun k x hget=>by
  obtain ⟨g2,off2,ho,hg2,hex⟩:=(HV0.out.ck).md.exprs.get hget;obtain ⟨o1,p1,o2,p2,o3,p3,hxc,hd1,hd2,hd3⟩:=hex.xc;exact ⟨g2,off2,ho,hg2,o1,p1,o2,p2,o3,p3,fun W hb=>⟨hxc.below hg2 hb,hd2.mono fun _ _ _ hg'=>intAt.below hb hg'⟩⟩
 go_enter Tryz.func198,Tryz.ntmps198;clear c1 c2;go_wp2_with fail;have h1:=HST.out _ (Below.refl _ w)
 go_region_held3 (fun w'=>Below w.heap.size w w'∧w'.cell? ⟨g,a+1,none⟩=some (.int .i64 sa)∧w'.cell? ⟨g,a+2,none⟩=some (.int .i64 sb'))
  (first | assumption | with_reducible exact HST.out _ (Below.refl _ _).drew | with_reducible exact HST.out _ (by assumption) | with_reducible exact HST.out _ (Below.alloc (And.left (by assumption)) (Below.size (And.left (by assumption))) _) | with_reducible exact HST.out _ (Below.drew (Below.alloc (Below.refl _ _) (Nat.le_refl _) _)))
  (fail)
 clear h1;have HP:=Lib.hid (HV0.out.below ((ball (Obj.cells #[.int .i64 sa,.int .i64 sb'] 283)).drew));have HBX:Hid ((w.alloc (Obj.cells #[.int .i64 sa,.int .i64 sb'] 283)).drew.heap[w.heap.size]? =some (.cells #[.int .i64 sa,.int .i64 sb'] 283 (0,0))):=Lib.hid (heap_alloc_new _ _);generalize (w.alloc (Obj.cells #[.int .i64 sa,.int .i64 sb'] 283)).drew=W0 at HP HBX ⊢;have t0:W0.cell? ⟨w.heap.size,0,none⟩=some (.int .i64 sa):=(cell_of_row _ _ _ _ _ _ HBX.out).trans rfl;have t1:W0.cell? ⟨w.heap.size,1,none⟩=some (.int .i64 sb'):=(cell_of_row _ _ _ _ _ _ HBX.out).trans rfl;go_wp2_with fail;clear t0 t1
 go_loopw [25] (fun iv W=>∃k:Nat,iv= .int .i64 k∧k≤2∧Hid (VJ B p sb h m proc r w (restT m proc s k) W)) (fun iv _=>2 - (intOf iv).toNat)
 case atStart=>exact ⟨0,rfl,by omega,HP⟩
 case round=>
  clear HP HBX;obtain ⟨k,rfl,hk,HJ⟩:=hrel;have HCK:=Lib.hid HJ.out.ck;rcases (show k=0∨k=1∨k=2 by omega) with rfl | rfl | rfl
  · have HRE:Hid (restT m proc s 0=topL m proc (decide (s.kind=1)) s.a ++ restT m proc s 1):=Lib.hid rfl;by_cases hneg:sa < 0
    · have HN:Hid (VJ B p sb h m proc r w (restT m proc s 1) wr):=Lib.hid (by have:=HJ.out;rw [HRE.out,topL_neg (by rw [HSA.out.1];exact hneg)] at this;exact this);have hix:∀w,(Instr.index 283 (.agg #[.int .i64 sa,.int .i64 sb']) (.int .i64 0)).run Tryz.prog w= .ok (.int .i64 sa) w:=index0 _ _;go_wp2_with fail;go_roundw;case rel=>exact ⟨1,by go_num,by omega,HN⟩
      case measure=>simp [intOf]
    · obtain ⟨kx,hkx⟩:∃kx:Nat,sa=kx:=⟨sa.toNat,by omega⟩;have HKX:=Lib.hid hkx;rw [hkx] at ha ⊢;have hix:∀w,(Instr.index 283 (.agg #[.int .i64 kx,.int .i64 sb']) (.int .i64 0)).run Tryz.prog w= .ok (.int .i64 kx) w:=index0 _ _;have hkn:kx < m.exprs.length:=by omega
      have hki: (kx:Int) < m.exprs.length:=by omega
      have hkz: (0:Int)≤kx:=by omega
      have hkz2:¬ (kx:Int) < 0:=by omega
      obtain ⟨x,hget⟩:∃x,m.exprs[kx]? =some x:=⟨_,List.getElem?_eq_getElem hkn⟩;have HSF:Hid (s.a=kx):=Lib.hid (HSA.out.1.trans hkx);have HOP:Hid (opAt m s.a=x.op∧argsAt m s.a=x.args):=Lib.hid (by unfold opAt argsAt;rw [HSF.out,Int.toNat_natCast,hget];exact ⟨rfl,rfl⟩);have HXO:=Lib.hid (HEX.out.ok kx x hget);obtain ⟨g2,off2,ho,hg2,o1',p1',o2',p2',o3',p3',hxc⟩:=HEAT.out kx x hget;have HXC:=Lib.hid hxc;have hxr:=HXC.out wr HJ.out.gn.bel;have d0:=hxr.1.c0;have d10:=hxr.1.c6;have hal2:=hxr.2.1;have d6:wr.cell? ⟨p,6,none⟩=some (.slice (some ⟨g2,off2,none⟩) m.exprs.length h.ec):=by rw [←ho];exact HCK.out.c6
      have d5:wr.cell? ⟨p,5,none⟩=some (.int .i64 m.claim):=HCK.out.c5;have e0:=HSCK.out wr HJ.out.gn.bel;clear hxc hxr hget ho hkx;have HNEG:Hid (¬s.a < 0):=Lib.hid (by rw [HSF.out];omega);clear hneg;by_cases q1:kd=1
      · have b1: (kd == 1)=true:=by rw [beq_iff_eq];exact q1
        have b2: (kd == 2)=false:=by rw [q1];rfl
        have HWH:Hid (decide (s.kind=1)=true):=Lib.hid (decide_eq_true (HSA.out.2.2.trans q1));clear q1;by_cases p39:x.op=39
        · have b39: (x.op == 39)=true:=by rw [p39];rfl
          by_cases hcl: (proc:Int)=m.claim
          · have hcb: ((proc:Int) != m.claim)=false:=by rw [bne_eq_false_iff_eq];exact hcl
            have HCL:=Lib.hid hcl;clear hcl p39;have HN1:Hid (VJ B p sb h m proc r w ((kx:Int) :: restT m proc s 1) wr):=Lib.hid (by have:=HJ.out;rw [HRE.out,topL_one HNEG.out (fun h=>h.2.2 HCL.out),HSF.out] at this;exact this);go_wp2_with fail;clear d0 d10 d6 d5 e0;refine (usesV HN1.out HEX.out hproc ⟨hkz,hki⟩).mono ?_;rintro e W2 ⟨u,rfl,hy,hn⟩;have HY:=Lib.hid hy;have HN:=Lib.hid hn;clear hy hn;cases u
            · have HZ:=Lib.hid (HN.out rfl);go_wp2_with fail;go_ret;exact HZ.out
            · have HZ:=Lib.hid (HY.out rfl);go_wp2_with fail;go_roundw;case rel=>exact ⟨1,by go_num,by omega,HZ⟩
              case measure=>simp [intOf]
          · have hcb: ((proc:Int) != m.claim)=true:=by rw [bne_iff_ne];exact hcl
            have HRUN:Hid (VJ B p sb h m proc r w (x.args.drop 0 ++ restT m proc s 1) wr):=Lib.hid (by have:=HJ.out;rw [HRE.out,topL_run HNEG.out ⟨HWH.out,by rw [HOP.out.1];exact p39,hcl⟩,HOP.out.2] at this;exact this);have HRA:Hid (∀q ∈ x.args,0≤q∧q < m.exprs.length):=Lib.hid fun q hq=>by
             have:=HXO.out.2 q (by unfold partsL moreL;rw [if_neg (by omega),if_pos (.inr p39)];exact List.mem_append_right _ hq);omega
            clear hcl p39;go_wp2_with fail;clear d0 d10 d6 d5 e0
            go_loopw [83] (fun iv W=>∃j:Nat,iv= .int .i64 j∧j≤x.args.length∧Hid (VJ B p sb h m proc r w (x.args.drop j ++ restT m proc s 1) W)) (fun iv _=>x.args.length - (intOf iv).toNat)
            case atStart=>exact ⟨0,rfl,by omega,HRUN⟩
            case round=>
             clear HRUN HJ;obtain ⟨j,rfl,hj,HJ⟩:=hrel;have hj0: (0:Int)≤j:=by omega
             by_cases hlt:j < x.args.length
             · have hlti: (j:Int) < x.args.length:=by omega
               obtain ⟨gr,offr,hor,hgr,hcell⟩:=(HXC.out _ HJ.out.gn.bel).2.cell hlt;obtain ⟨q,hq⟩:∃q,x.args[j]=q:=⟨_,rfl⟩;have HQR:=Lib.hid (HRA.out q (by rw [←hq];exact List.getElem_mem hlt));have HN1:Hid (VJ B p sb h m proc r w (q :: (x.args.drop (j+1) ++ restT m proc s 1)) wr):=Lib.hid (by have:=HJ.out;rw [drop_cons hlt,hq] at this;exact this);have hcd2:wr.cell? ⟨gr,offr+j,none⟩=some (.int .i64 q):=by unfold intAt at hcell;rw [Nat.mul_one,hq] at hcell;exact hcell
               subst hor;clear hgr hq hcell;go_wp2_with fail;clear hcd2;refine (usesV HN1.out HEX.out hproc HQR.out).mono ?_;rintro e W2 ⟨u,rfl,hy,hn⟩;have HY:=Lib.hid hy;have HN:=Lib.hid hn;clear hy hn;cases u
               · have HZ:=Lib.hid (HN.out rfl);go_wp2_with fail;go_ret;exact HZ.out
               · have HZ:=Lib.hid (HY.out rfl);go_wp2_with fail;go_roundw;case rel=>exact ⟨j+1,by go_num,by omega,HZ⟩
                 case measure=>simp [intOf];omega
             · have hlti:¬ (j:Int) < x.args.length:=by omega
               have HZ:Hid (VJ B p sb h m proc r w (restT m proc s 1) wr):=Lib.hid (by have:=HJ.out;rw [List.drop_of_length_le (by omega)] at this;exact this);go_wp2_with fail;go_roundw;case rel=>exact ⟨1,by go_num,by omega,HZ⟩
               case measure=>simp [intOf]
        · have b39: (x.op == 39)=false:=by rw [beq_eq_false_iff_ne];exact p39
          have HP39:=Lib.hid p39;clear p39;have HN1:Hid (VJ B p sb h m proc r w ((kx:Int) :: restT m proc s 1) wr):=Lib.hid (by have:=HJ.out;rw [HRE.out,topL_one HNEG.out (fun h=>HP39.out (by rw [←HOP.out.1];exact h.2.1)),HSF.out] at this;exact this);go_wp2_with fail;clear d0 d10 d6 d5 e0;refine (usesV HN1.out HEX.out hproc ⟨hkz,hki⟩).mono ?_;rintro e W2 ⟨u,rfl,hy,hn⟩;have HY:=Lib.hid hy;have HN:=Lib.hid hn;clear hy hn;cases u
          · have HZ:=Lib.hid (HN.out rfl);go_wp2_with fail;go_ret;exact HZ.out
          · have HZ:=Lib.hid (HY.out rfl);go_wp2_with fail;go_roundw;case rel=>exact ⟨1,by go_num,by omega,HZ⟩
            case measure=>simp [intOf]
      · have b1: (kd == 1)=false:=by rw [beq_eq_false_iff_ne];exact q1
        have HWH:Hid (decide (s.kind=1)=false):=Lib.hid (decide_eq_false (by rw [HSA.out.2.2];exact q1));obtain ⟨u2,b2⟩:∃u,(kd == 2)=u:=⟨_,rfl⟩;clear q1;cases u2
        · have HN1:Hid (VJ B p sb h m proc r w ((kx:Int) :: restT m proc s 1) wr):=Lib.hid (by have:=HJ.out;rw [HRE.out,topL_one HNEG.out (fun h=>by rw [HWH.out] at h;cases h.1),HSF.out] at this;exact this);go_wp2_with fail;clear d0 d10 d6 d5 e0;refine (usesV HN1.out HEX.out hproc ⟨hkz,hki⟩).mono ?_;rintro e W2 ⟨u,rfl,hy,hn⟩;have HY:=Lib.hid hy;have HN:=Lib.hid hn;clear hy hn;cases u
          · have HZ:=Lib.hid (HN.out rfl);go_wp2_with fail;go_ret;exact HZ.out
          · have HZ:=Lib.hid (HY.out rfl);go_wp2_with fail;go_roundw;case rel=>exact ⟨1,by go_num,by omega,HZ⟩
            case measure=>simp [intOf]
        · have HN1:Hid (VJ B p sb h m proc r w ((kx:Int) :: restT m proc s 1) wr):=Lib.hid (by have:=HJ.out;rw [HRE.out,topL_one HNEG.out (fun h=>by rw [HWH.out] at h;cases h.1),HSF.out] at this;exact this);go_wp2_with fail;clear d0 d10 d6 d5 e0;refine (usesV HN1.out HEX.out hproc ⟨hkz,hki⟩).mono ?_;rintro e W2 ⟨u,rfl,hy,hn⟩;have HY:=Lib.hid hy;have HN:=Lib.hid hn;clear hy hn;cases u
          · have HZ:=Lib.hid (HN.out rfl);go_wp2_with fail;go_ret;exact HZ.out
          · have HZ:=Lib.hid (HY.out rfl);go_wp2_with fail;go_roundw;case rel=>exact ⟨1,by go_num,by omega,HZ⟩
            case measure=>simp [intOf]
  · have HRE:Hid (restT m proc s 1=topL m proc (decide (s.kind=2)) s.b ++ restT m proc s 2):=Lib.hid rfl;by_cases hneg:sb' < 0
    · have HN:Hid (VJ B p sb h m proc r w (restT m proc s 2) wr):=Lib.hid (by have:=HJ.out;rw [HRE.out,topL_neg (by rw [HSA.out.2.1];exact hneg)] at this;exact this);have hix:∀w,(Instr.index 283 (.agg #[.int .i64 sa,.int .i64 sb']) (.int .i64 1)).run Tryz.prog w= .ok (.int .i64 sb') w:=index1 _ _;go_wp2_with fail;go_roundw;case rel=>exact ⟨2,by go_num,by omega,HN⟩
      case measure=>simp [intOf]
    · obtain ⟨kx,hkx⟩:∃kx:Nat,sb'=kx:=⟨sb'.toNat,by omega⟩;have HKX:=Lib.hid hkx;rw [hkx] at hb ⊢;have hix:∀w,(Instr.index 283 (.agg #[.int .i64 sa,.int .i64 kx]) (.int .i64 1)).run Tryz.prog w= .ok (.int .i64 kx) w:=index1 _ _;have hkn:kx < m.exprs.length:=by omega
      have hki: (kx:Int) < m.exprs.length:=by omega
      have hkz: (0:Int)≤kx:=by omega
      have hkz2:¬ (kx:Int) < 0:=by omega
      obtain ⟨x,hget⟩:∃x,m.exprs[kx]? =some x:=⟨_,List.getElem?_eq_getElem hkn⟩;have HSF:Hid (s.b=kx):=Lib.hid (HSA.out.2.1.trans hkx);have HOP:Hid (opAt m s.b=x.op∧argsAt m s.b=x.args):=Lib.hid (by unfold opAt argsAt;rw [HSF.out,Int.toNat_natCast,hget];exact ⟨rfl,rfl⟩);have HXO:=Lib.hid (HEX.out.ok kx x hget);obtain ⟨g2,off2,ho,hg2,o1',p1',o2',p2',o3',p3',hxc⟩:=HEAT.out kx x hget;have HXC:=Lib.hid hxc;have hxr:=HXC.out wr HJ.out.gn.bel;have d0:=hxr.1.c0;have d10:=hxr.1.c6;have hal2:=hxr.2.1;have d6:wr.cell? ⟨p,6,none⟩=some (.slice (some ⟨g2,off2,none⟩) m.exprs.length h.ec):=by rw [←ho];exact HCK.out.c6
      have d5:wr.cell? ⟨p,5,none⟩=some (.int .i64 m.claim):=HCK.out.c5;have e0:=HSCK.out wr HJ.out.gn.bel;clear hxc hxr hget ho hkx;have HNEG:Hid (¬s.b < 0):=Lib.hid (by rw [HSF.out];omega);clear hneg;by_cases q1:kd=2
      · have b1: (kd == 2)=true:=by rw [beq_iff_eq];exact q1
        have b2: (kd == 1)=false:=by rw [q1];rfl
        have HWH:Hid (decide (s.kind=2)=true):=Lib.hid (decide_eq_true (HSA.out.2.2.trans q1));clear q1;by_cases p39:x.op=39
        · have b39: (x.op == 39)=true:=by rw [p39];rfl
          by_cases hcl: (proc:Int)=m.claim
          · have hcb: ((proc:Int) != m.claim)=false:=by rw [bne_eq_false_iff_eq];exact hcl
            have HCL:=Lib.hid hcl;clear hcl p39;have HN1:Hid (VJ B p sb h m proc r w ((kx:Int) :: restT m proc s 2) wr):=Lib.hid (by have:=HJ.out;rw [HRE.out,topL_one HNEG.out (fun h=>h.2.2 HCL.out),HSF.out] at this;exact this);go_wp2_with fail;clear d0 d10 d6 d5 e0;refine (usesV HN1.out HEX.out hproc ⟨hkz,hki⟩).mono ?_;rintro e W2 ⟨u,rfl,hy,hn⟩;have HY:=Lib.hid hy;have HN:=Lib.hid hn;clear hy hn;cases u
            · have HZ:=Lib.hid (HN.out rfl);go_wp2_with fail;go_ret;exact HZ.out
            · have HZ:=Lib.hid (HY.out rfl);go_wp2_with fail;go_roundw;case rel=>exact ⟨2,by go_num,by omega,HZ⟩
              case measure=>simp [intOf]
          · have hcb: ((proc:Int) != m.claim)=true:=by rw [bne_iff_ne];exact hcl
            have HRUN:Hid (VJ B p sb h m proc r w (x.args.drop 0 ++ restT m proc s 2) wr):=Lib.hid (by have:=HJ.out;rw [HRE.out,topL_run HNEG.out ⟨HWH.out,by rw [HOP.out.1];exact p39,hcl⟩,HOP.out.2] at this;exact this);have HRA:Hid (∀q ∈ x.args,0≤q∧q < m.exprs.length):=Lib.hid fun q hq=>by
             have:=HXO.out.2 q (by unfold partsL moreL;rw [if_neg (by omega),if_pos (.inr p39)];exact List.mem_append_right _ hq);omega
            clear hcl p39;go_wp2_with fail;clear d0 d10 d6 d5 e0
            go_loopw [83] (fun iv W=>∃j:Nat,iv= .int .i64 j∧j≤x.args.length∧Hid (VJ B p sb h m proc r w (x.args.drop j ++ restT m proc s 2) W)) (fun iv _=>x.args.length - (intOf iv).toNat)
            case atStart=>exact ⟨0,rfl,by omega,HRUN⟩
            case round=>
             clear HRUN HJ;obtain ⟨j,rfl,hj,HJ⟩:=hrel;have hj0: (0:Int)≤j:=by omega
             by_cases hlt:j < x.args.length
             · have hlti: (j:Int) < x.args.length:=by omega
               obtain ⟨gr,offr,hor,hgr,hcell⟩:=(HXC.out _ HJ.out.gn.bel).2.cell hlt;obtain ⟨q,hq⟩:∃q,x.args[j]=q:=⟨_,rfl⟩;have HQR:=Lib.hid (HRA.out q (by rw [←hq];exact List.getElem_mem hlt));have HN1:Hid (VJ B p sb h m proc r w (q :: (x.args.drop (j+1) ++ restT m proc s 2)) wr):=Lib.hid (by have:=HJ.out;rw [drop_cons hlt,hq] at this;exact this);have hcd2:wr.cell? ⟨gr,offr+j,none⟩=some (.int .i64 q):=by unfold intAt at hcell;rw [Nat.mul_one,hq] at hcell;exact hcell
               subst hor;clear hgr hq hcell;go_wp2_with fail;clear hcd2;refine (usesV HN1.out HEX.out hproc HQR.out).mono ?_;rintro e W2 ⟨u,rfl,hy,hn⟩;have HY:=Lib.hid hy;have HN:=Lib.hid hn;clear hy hn;cases u
               · have HZ:=Lib.hid (HN.out rfl);go_wp2_with fail;go_ret;exact HZ.out
               · have HZ:=Lib.hid (HY.out rfl);go_wp2_with fail;go_roundw;case rel=>exact ⟨j+1,by go_num,by omega,HZ⟩
                 case measure=>simp [intOf];omega
             · have hlti:¬ (j:Int) < x.args.length:=by omega
               have HZ:Hid (VJ B p sb h m proc r w (restT m proc s 2) wr):=Lib.hid (by have:=HJ.out;rw [List.drop_of_length_le (by omega)] at this;exact this);go_wp2_with fail;go_roundw;case rel=>exact ⟨2,by go_num,by omega,HZ⟩
               case measure=>simp [intOf]
        · have b39: (x.op == 39)=false:=by rw [beq_eq_false_iff_ne];exact p39
          have HP39:=Lib.hid p39;clear p39;have HN1:Hid (VJ B p sb h m proc r w ((kx:Int) :: restT m proc s 2) wr):=Lib.hid (by have:=HJ.out;rw [HRE.out,topL_one HNEG.out (fun h=>HP39.out (by rw [←HOP.out.1];exact h.2.1)),HSF.out] at this;exact this);go_wp2_with fail;clear d0 d10 d6 d5 e0;refine (usesV HN1.out HEX.out hproc ⟨hkz,hki⟩).mono ?_;rintro e W2 ⟨u,rfl,hy,hn⟩;have HY:=Lib.hid hy;have HN:=Lib.hid hn;clear hy hn;cases u
          · have HZ:=Lib.hid (HN.out rfl);go_wp2_with fail;go_ret;exact HZ.out
          · have HZ:=Lib.hid (HY.out rfl);go_wp2_with fail;go_roundw;case rel=>exact ⟨2,by go_num,by omega,HZ⟩
            case measure=>simp [intOf]
      · have b1: (kd == 2)=false:=by rw [beq_eq_false_iff_ne];exact q1
        have HWH:Hid (decide (s.kind=2)=false):=Lib.hid (decide_eq_false (by rw [HSA.out.2.2];exact q1));obtain ⟨u2,b2⟩:∃u,(kd == 1)=u:=⟨_,rfl⟩;clear q1;cases u2
        · have HN1:Hid (VJ B p sb h m proc r w ((kx:Int) :: restT m proc s 2) wr):=Lib.hid (by have:=HJ.out;rw [HRE.out,topL_one HNEG.out (fun h=>by rw [HWH.out] at h;cases h.1),HSF.out] at this;exact this);go_wp2_with fail;clear d0 d10 d6 d5 e0;refine (usesV HN1.out HEX.out hproc ⟨hkz,hki⟩).mono ?_;rintro e W2 ⟨u,rfl,hy,hn⟩;have HY:=Lib.hid hy;have HN:=Lib.hid hn;clear hy hn;cases u
          · have HZ:=Lib.hid (HN.out rfl);go_wp2_with fail;go_ret;exact HZ.out
          · have HZ:=Lib.hid (HY.out rfl);go_wp2_with fail;go_roundw;case rel=>exact ⟨2,by go_num,by omega,HZ⟩
            case measure=>simp [intOf]
        · have HN1:Hid (VJ B p sb h m proc r w ((kx:Int) :: restT m proc s 2) wr):=Lib.hid (by have:=HJ.out;rw [HRE.out,topL_one HNEG.out (fun h=>by rw [HWH.out] at h;cases h.1),HSF.out] at this;exact this);go_wp2_with fail;clear d0 d10 d6 d5 e0;refine (usesV HN1.out HEX.out hproc ⟨hkz,hki⟩).mono ?_;rintro e W2 ⟨u,rfl,hy,hn⟩;have HY:=Lib.hid hy;have HN:=Lib.hid hn;clear hy hn;cases u
          · have HZ:=Lib.hid (HN.out rfl);go_wp2_with fail;go_ret;exact HZ.out
          · have HZ:=Lib.hid (HY.out rfl);go_wp2_with fail;go_roundw;case rel=>exact ⟨2,by go_num,by omega,HZ⟩
            case measure=>simp [intOf]
  · have HN:Hid (VJ B p sb h m proc r w (s.args.drop 0) wr):=Lib.hid HJ.out;have e4:=(HSC.out wr HJ.out.gn.bel).1.c4;clear HJ;rw [show ((2:Nat):Int)=2 from rfl];go_wp2_with fail;clear e4
    go_loopw [104] (fun iv W=>∃j:Nat,iv= .int .i64 j∧j≤s.args.length∧Hid (VJ B p sb h m proc r w (s.args.drop j) W)) (fun iv _=>s.args.length - (intOf iv).toNat)
    case atStart=>exact ⟨0,rfl,by omega,HN⟩
    case round=>
     clear HN;obtain ⟨j,rfl,hj,HJ⟩:=hrel;have hj0: (0:Int)≤j:=by omega
     by_cases hlt:j < s.args.length
     · have hlti: (j:Int) < s.args.length:=by omega
       obtain ⟨gr,offr,hor,hgr,hcell⟩:=(HSC.out _ HJ.out.gn.bel).2.cell hlt;obtain ⟨q,hq⟩:∃q,s.args[j]=q:=⟨_,rfl⟩;have HQR:=Lib.hid (HARGS.out q (by rw [←hq];exact List.getElem_mem hlt));have HN1:Hid (VJ B p sb h m proc r w (q :: s.args.drop (j+1)) wr):=Lib.hid (by have:=HJ.out;rw [drop_cons hlt,hq] at this;exact this);have hcd2:wr.cell? ⟨gr,offr+j,none⟩=some (.int .i64 q):=by unfold intAt at hcell;rw [Nat.mul_one,hq] at hcell;exact hcell
       subst hor;clear hgr hq hcell;go_wp2_with fail;clear hcd2;refine (usesV HN1.out HEX.out hproc HQR.out).mono ?_;rintro e W2 ⟨u,rfl,hy,hn⟩;have HY:=Lib.hid hy;have HN:=Lib.hid hn;clear hy hn;cases u
       · have HZ:=Lib.hid (HN.out rfl);go_wp2_with fail;go_ret;exact HZ.out
       · have HZ:=Lib.hid (HY.out rfl);go_wp2_with fail;go_roundw;case rel=>exact ⟨j+1,by go_num,by omega,HZ⟩
         case measure=>simp [intOf];omega
     · have hlti:¬ (j:Int) < s.args.length:=by omega
       have HZ:Hid (VJ B p sb h m proc r w [] wr):=Lib.hid (by have:=HJ.out;rw [List.drop_of_length_le (by omega)] at this;exact this);have HZ2:=Lib.hid HZ.out.done;go_wp2_with fail;go_ret;exact HZ2.out
end Go.Proofs.YthfldokfnjpkmaaGreatDoor
namespace Go.Proofs.YthfldokfnjpkmaaGreatDoor
open Go.ChangeShapes Go.WideShapes Go.ChangeAt Go.RowKit
theorem isExprB_of {m:ModelD} {x:Int} (h:isExprB m x=true):0≤x∧x < m.exprs.length:=by unfold isExprB at h;simpa using h
theorem stmtB_ok {m:ModelD} {s:StmtD} (h:stmtB m s=true):s.a < m.exprs.length∧s.b < m.exprs.length∧∀q ∈ s.args,0≤q∧q < m.exprs.length:=by
 unfold stmtB at h;split at h
 · cases h
 · rename_i q hq
   simp only [Bool.and_eq_true] at h;obtain ⟨⟨⟨⟨h1,h2⟩,h3⟩,h4⟩,h5⟩:=h;unfold askAB at h1;simp only [Bool.not_eq_true',Bool.or_eq_false_iff,decide_eq_false_iff_not,Bool.and_eq_false_iff] at h1;obtain ⟨⟨⟨a1,a2⟩,b1⟩,b2⟩:=h1;have key:∀ (x:Int) (b:Bool),¬ (b≠decide (x≠ -1))→ (b=false∨ (!isExprB m x)=false)→x < m.exprs.length:=by
    intro x b e1 e2;rcases e2 with e2 | e2
    · subst e2;by_cases hx:x= -1
      · subst hx;omega
      · exact absurd (by rw [decide_eq_true hx];decide) e1
    · have :isExprB m x=true:=by simpa using e2
      exact (isExprB_of this).2
   refine ⟨key _ _ a1 a2,key _ _ b1 b2,fun q hq=>isExprB_of ?_⟩;rw [List.all_eq_true] at h3;exact h3 q hq
def FJ {α:Type} (f:List Int→α→Bool × List Int) (B p sb:Nat) (h:MH) (m:ModelD) (r:Bool × List Int) (w0:World) (R:List α) (W:World):Prop:=
 ∃seen left,stopF f R seen=r∧UJ B p sb h m seen left W∧Gn B w0 W
section
variable {α:Type} {f:List Int→α→Bool × List Int} {B p sb:Nat} {h:MH} {m:ModelD} {r:Bool × List Int} {w0 W:World}
theorem FJ.done (hv:FJ f B p sb h m r w0 [] W):UsesP B p sb h m r w0 (.returned (.bool true)) W:=by
 obtain ⟨seen,left,h1,h2,h3⟩:=hv;rw [←h1];exact ⟨rfl,⟨_,h2⟩,h3⟩
theorem FJ.ck {R:List α} (hv:FJ f B p sb h m r w0 R W):Ck B W p h m:=by
 obtain ⟨seen,left,h1,⟨lv,h2⟩,h3⟩:=hv;exact h2.ck
theorem FJ.gn {R:List α} (hv:FJ f B p sb h m r w0 R W):Gn B w0 W:=by
 obtain ⟨seen,left,h1,h2,h3⟩:=hv;exact h3
theorem FJ.below {R:List α} {W':World} (hv:FJ f B p sb h m r w0 R W) (hb:Below W.heap.size W W'):FJ f B p sb h m r w0 R W':=by
 obtain ⟨seen,left,h1,⟨lv,h2⟩,h3⟩:=hv;exact ⟨seen,left,h1,⟨lv,h2.below hb⟩,h3.trans (Gn.of hb h2.leW)⟩
def FStep {α:Type} (f:List Int→α→Bool × List Int) (B p sb:Nat) (h:MH) (m:ModelD) (r:Bool × List Int) (w0:World) (R:List α) (e:Ending) (W:World):Prop:=
 ∃u,e= .returned (.bool u)∧ (u=true→FJ f B p sb h m r w0 R W)∧ (u=false→UsesP B p sb h m r w0 (.returned (.bool false)) W)
theorem FJ.call {F:Nat} {args:Array Value} {x:α} {R:List α} (hv:FJ f B p sb h m r w0 (x :: R) W)
 (hc:∀seen left,UJ B p sb h m seen left W→Calls Tryz.prog F args W (UsesP B p sb h m (f seen x) W)):Calls Tryz.prog F args W (FStep f B p sb h m r w0 R):=by
 obtain ⟨seen,left,h1,h2,h3⟩:=hv;refine (hc seen left h2).mono ?_;rintro e W' ⟨rfl,⟨left',h4⟩,h5⟩;refine ⟨_,rfl,fun hu=>⟨_,_, ?_,h4,h3.trans h5⟩,fun hu=> ?_⟩
 · rw [←h1,stopF_yes hu]
 · rw [stopF_no hu] at h1;rw [←h1];exact ⟨rfl,⟨_,h4⟩,h3.trans h5⟩
theorem FJ.no {x:α} {R:List α} {W':World} (hv:FJ f B p sb h m r w0 (x :: R) W) (hx:∀seen,f seen x= (false,seen)) (hb:Below W.heap.size W W'):UsesP B p sb h m r w0 (.returned (.bool false)) W':=by
 obtain ⟨seen,left,h1,⟨lv,h2⟩,h3⟩:=hv;rw [stopF_no (by rw [hx]),hx] at h1;rw [←h1];exact ⟨rfl,⟨_,lv,h2.below hb⟩,h3.trans (Gn.of hb h2.leW)⟩
theorem FJ.call2 {F:Nat} {args:Array Value} {x:α} {R:List α} {g:List Int→Bool × List Int} (hv:FJ f B p sb h m r w0 (x :: R) W) (hx:∀seen,f seen x=g seen)
 (hc:∀seen left,UJ B p sb h m seen left W→Calls Tryz.prog F args W (UsesP B p sb h m (g seen) W)):Calls Tryz.prog F args W (FStep f B p sb h m r w0 R):=
 hv.call fun seen left hj=>by rw [hx];exact hc seen left hj
end
set_option maxHeartbeats 8000000 in
set_option maxRecDepth 100000 in
theorem waysC {B p sb:Nat} {h:MH} {m:ModelD} {seen left:List Int} (proc:Nat) (l:List TransD) (o:Option Addr) (cap:Nat) (w:World) (hj:UJ B p sb h m seen left w) (hx:EX m) (hproc:proc < m.procs.length) (hl:Row B o 9 (transAt B w) l):
 Calls Tryz.prog 177 #[.pointer (some ⟨p,0,none⟩),.int .i64 proc,.slice o l.length cap] w (UsesP B p sb h m (waysL m proc seen l) w):=by
 have HEX:=Lib.hid hx;have HL:=Lib.hid hl;obtain ⟨lv,k⟩:=hj;have hB:B≤w.heap.size:=k.leW;obtain ⟨r,hr⟩:∃r,waysL m proc seen l=r:=⟨_,rfl⟩;have HV0:Hid (FJ (wayL m proc) B p sb h m r w (l.drop 0) w):=Lib.hid ⟨seen,left,by rw [←hr];rfl,⟨lv,k⟩,Gn.refl _ _⟩;rw [hr];have hpl:m.procs.length≤140737488355328:=k.md.procs.1;have hll:=hl.1;clear hr k hx hl;go_enter Tryz.func177,Tryz.ntmps177;go_wp2_with fail
 go_loopw [11] (fun iv W=>∃j:Nat,iv= .int .i64 j∧j≤l.length∧Hid (FJ (wayL m proc) B p sb h m r w (l.drop j) W)) (fun iv _=>l.length - (intOf iv).toNat)
 case atStart=>exact ⟨0,rfl,by omega,HV0⟩
 case round=>
  clear HV0;obtain ⟨j,rfl,hj,HJ⟩:=hrel;have hj0: (0:Int)≤j:=by omega
  have hp0: (0:Int)≤proc:=by omega
  by_cases hlt:j < l.length
  · have hlti: (j:Int) < l.length:=by omega
    have HCK:=Lib.hid HJ.out.ck;have hrow:Row B o 9 (transAt B wr) l:=HL.out.mono fun _ _ _ hg=>transAt.below HJ.out.gn.bel hg
    obtain ⟨g,off,hog,hg,ht⟩:=hrow.cell hlt;obtain ⟨t,hte⟩:∃t,l[j]=t:=⟨_,rfl⟩;rw [hte] at ht;have HN1:Hid (FJ (wayL m proc) B p sb h m r w (t :: l.drop (j+1)) wr):=Lib.hid (by have:=HJ.out;rw [drop_cons hlt,hte] at this;exact this);obtain ⟨a,ha⟩:∃a,off+j*9=a:=⟨_,rfl⟩;have HA:=Lib.hid ha;rw [ha] at ht;have HT:=Lib.hid ht;subst hog;clear hrow ht hte ha HJ;go_wp2_with fail;rw [HA.out];refine (stmtC wr HCK.out HT.out.s hg).mono ?_;rintro e W2 ⟨rfl,hb2⟩;have HB2:=Lib.hid hb2;clear hb2;obtain ⟨u,hu⟩:∃u,stmtB m t.s=u:=⟨_,rfl⟩;rw [hu];have HU:=Lib.hid hu;clear hu;cases u
    · have HZ:=Lib.hid (HN1.out.no (fun seen=>by unfold wayL;rw [HU.out];rfl) HB2.out);go_wp2_with fail;go_ret;exact HZ.out
    · have HV2:=Lib.hid (HN1.out.below HB2.out);have HS2:Hid (stmtAt B W2 g a t.s):=Lib.hid (HT.out.s.below (HB2.out.mono (by have:=HCK.out.le;have:=HCK.out.lt;omega)) hg);have HOK:=Lib.hid (stmtB_ok HU.out);have d5:W2.cell? ⟨p,5,none⟩=some (.int .i64 m.claim):=HV2.out.ck.c5;by_cases hcl: (proc:Int)=m.claim
      · have hcb: ((proc:Int) == m.claim)=true:=by rw [beq_iff_eq];exact hcl
        have HCL:=Lib.hid hcl;have e0:=HS2.out.c0;clear hcl;go_wp2_with fail;clear d5 e0;refine (claimsC t.s.kind W2).mono ?_;rintro e W3 ⟨rfl,rfl⟩;obtain ⟨u,hu⟩:∃u,claimsB t.s.kind=u:=⟨_,rfl⟩;rw [hu];have HU2:=Lib.hid hu;clear hu;cases u
        · have HZ:=Lib.hid (HV2.out.no (fun seen=>by unfold wayL;rw [HU.out,HU2.out,decide_eq_true HCL.out];rfl) (Below.refl _ _));go_wp2_with fail;go_ret;exact HZ.out
        · have HC:=Lib.hid (HV2.out.call2 (F:=198) (args:=#[.pointer (some ⟨p,0,none⟩),.int .i64 proc,.pointer (some ⟨g,a,none⟩)]) (g:=fun seen=>usedByL m proc seen t.s) (fun seen=>by unfold wayL;rw [HU.out,HU2.out];simp) (fun seen left hj=>usedByC proc W2 hj HEX.out hproc HS2.out hg HOK.out.1 HOK.out.2.1 HOK.out.2.2));go_wp2_with fail;refine HC.out.mono ?_;rintro e W4 ⟨u,rfl,hy,hn⟩;have HY:=Lib.hid hy;have HN:=Lib.hid hn;clear hy hn;cases u
          · have HZ:=Lib.hid (HN.out rfl);go_wp2_with fail;go_ret;exact HZ.out
          · have HZ:=Lib.hid (HY.out rfl);go_wp2_with fail;go_roundw;case rel=>exact ⟨j+1,by go_num,by omega,HZ⟩
            case measure=>simp [intOf];omega
      · have hcb: ((proc:Int) == m.claim)=false:=by rw [beq_eq_false_iff_ne];exact hcl
        have HC:=Lib.hid (HV2.out.call2 (F:=198) (args:=#[.pointer (some ⟨p,0,none⟩),.int .i64 proc,.pointer (some ⟨g,a,none⟩)]) (g:=fun seen=>usedByL m proc seen t.s) (fun seen=>by unfold wayL;rw [HU.out,decide_eq_false hcl];simp) (fun seen left hj=>usedByC proc W2 hj HEX.out hproc HS2.out hg HOK.out.1 HOK.out.2.1 HOK.out.2.2));clear hcl;go_wp2_with fail;clear d5;refine HC.out.mono ?_;rintro e W4 ⟨u,rfl,hy,hn⟩;have HY:=Lib.hid hy;have HN:=Lib.hid hn;clear hy hn;cases u
        · have HZ:=Lib.hid (HN.out rfl);go_wp2_with fail;go_ret;exact HZ.out
        · have HZ:=Lib.hid (HY.out rfl);go_wp2_with fail;go_roundw;case rel=>exact ⟨j+1,by go_num,by omega,HZ⟩
          case measure=>simp [intOf];omega
  · have hlti:¬ (j:Int) < l.length:=by omega
    have HZ:Hid (FJ (wayL m proc) B p sb h m r w [] wr):=Lib.hid (by have:=HJ.out;rw [List.drop_of_length_le (by omega)] at this;exact this);have HZ2:=Lib.hid HZ.out.done;go_wp2_with fail;go_ret;exact HZ2.out
end Go.Proofs.YthfldokfnjpkmaaGreatDoor
