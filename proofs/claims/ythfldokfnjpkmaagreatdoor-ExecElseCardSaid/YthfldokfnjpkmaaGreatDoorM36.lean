/- What a proctype uses, as the document has it: a tree is gone through. -/
import Derived.Test.YthfldokfnjpkmaaGreatDoorM34
import Derived.Test.YthfldokfnjpkmaaGreatDoorM20
import Derived.Deep.CutRange
import Derived.Deep.RegionLaw
set_option linter.unusedVariables false
set_option linter.unusedSimpArgs false
namespace Go.Proofs.YthfldokfnjpkmaaGreatDoor
open Go.ChangeShapes Go.WideShapes Go.ChangeAt Go.RowKit
def useT (e39 run ecl e31 e2 esc:Bool):Bool:=(e39 && !run) || (ecl && (e31 || e39 || (e2 && esc)))
theorem use_tests (m:ModelD) (pr:Nat) (x:ExprD) (run:Bool):duseB m pr x run= (!(useT (x.op == 39) run ((pr:Int) == m.claim) (x.op == 31) (x.op == 2) (x.v.scope == 1)) && !((x.op == 2) && decide (roomL m pr x.v < reachL x.v))):=by
 unfold duseB useT;have e1: ((pr:Int) == m.claim)=decide ((pr:Int)=m.claim):=rfl;have e2: (x.op == 39)=decide (x.op=39):=rfl;have e3: (x.op == 31)=decide (x.op=31):=rfl;have e4: (x.op == 2)=decide (x.op=2):=rfl;have e5: (x.v.scope == 1)=decide (x.v.scope=1):=rfl;rw [e1,e2,e3,e4,e5];grind
theorem uses_step {m:ModelD} (hx:EX m) {pr:Nat} (run:Bool) {k:Nat} {x:ExprD} (h:m.exprs[k]? =some x):usesD m pr (k+1) k run= (duseB m pr x run && (partsL x).all (okU m pr)):=by
 rw [usesD];simp only [Int.toNat_natCast,h];congr 1;rw [Bool.eq_iff_iff,List.all_eq_true,List.all_eq_true];refine forall_congr' fun q=>forall_congr' fun hq=> ?_
 have h1:=(hx.ok _ _ h).2 q hq;unfold okU;rw [uses_more hx k q false (by omega)]
theorem parts_small {m:ModelD} (hx:EX m) {k:Nat} {x:ExprD} (h:m.exprs[k]? =some x): (partsL x).length≤4096:=by
 have h1:=hx.sum;unfold partsN at h1;have h2:x ∈ m.exprs:=List.mem_of_getElem? h;have key:∀ (l:List ExprD),x ∈ l→ (partsL x).length≤ (l.map fun x=>(partsL x).length).sum:=by
  intro l
  induction l with
  | nil=>intro h;cases h
  | cons y r ih=>
    intro hm;simp only [List.map_cons,List.sum_cons];rcases List.mem_cons.1 hm with rfl | hm
    · omega
    · have:=ih hm;omega
 have:=key _ h2;omega
theorem var_of {m:ModelD} (hx:EX m) {k:Nat} {x:ExprD} (h:m.exprs[k]? =some x) (hop:x.op=2): (0≤x.v.scope∧x.v.scope≤2)∧ (x.v.scope=2→0≤x.v.type∧x.v.type < m.procs.length)∧∀d ∈ x.v.dims,d.len≤9223372036854775807:=by
 have h1:=(hx.ok _ _ h).1;unfold exprB kindB at h1;rw [if_neg (by omega),if_pos hop] at h1;simp only [Bool.and_eq_true] at h1;have h2:=h1.2;unfold varB varHeadB varTailB at h2;simp only [Bool.and_eq_true,Bool.not_eq_true',decide_eq_false_iff_not] at h2;obtain ⟨⟨h3,h4⟩,h5⟩:=h2;refine ⟨by omega,fun hs=> ?_,fun d hd=> ?_⟩
 · rw [if_pos hs] at h5;have:=ptypeB_of.1 h5;omega
 · have h6:=List.all_eq_true.1 h4 d hd;unfold dimB at h6;simp only [Bool.not_eq_true',decide_eq_false_iff_not] at h6;omega
theorem op_of {m:ModelD} (hx:EX m) {k:Nat} {x:ExprD} (h:m.exprs[k]? =some x):1≤x.op∧x.op≤39:=by
 have h1:=(hx.ok _ _ h).1;unfold exprB at h1;simp only [Bool.and_eq_true,decide_eq_true_eq] at h1;exact h1.1.1
set_option maxRecDepth 100000 in
set_option maxHeartbeats 8000000 in
theorem usesStepH {h:MH} {m:ModelD} (hx:EX m) (pr:Nat) (hpr:pr < m.procs.length) (k:Nat) (x:ExprD) (hk:m.exprs[k]? =some x)
 (IH:∀ (q:Nat),q < k→∀ (W:World),MD W.heap.size W h m→Calls Tryz.prog 157 #[mV h m,.int .i64 pr,.int .i64 q,.bool false] W fun e w'=>e= .returned (.bool (okU m pr q))∧Below W.heap.size W w')
 (run:Bool) (w:World) (hd:MD w.heap.size w h m):Calls Tryz.prog 157 #[mV h m,.int .i64 pr,.int .i64 k,.bool run] w fun e w'=>e= .returned (.bool (usesD m pr (k+1) k run))∧Below w.heap.size w w':=by
 obtain ⟨CS,hCS⟩:∃c,c=mCells h m:=⟨_,rfl⟩;have hi:=(List.getElem?_eq_some_iff.1 hk).1;have hki: (k:Int) < m.exprs.length:=by omega
 have hk0: (0:Int)≤k:=by omega
 have l6:=hd.exprs.1;obtain ⟨g,off,ho,hg,he⟩:=hd.exprs.get hk;have HX0:=Lib.hid (Mx.new hd hCS);have c6:=HX0.out.c6;rw [ho] at c6;obtain ⟨vo,vc,ao,ac,mo,mc,hxc0,hr1,hr2,hr3⟩:=he.xc;have hxc:=hxc0.below hg (ball (.cells CS 29));have HR1:=Lib.hid hr1;have HR2:=Lib.hid hr2;have e0:=hxc.c0;have e1:=hxc.c1;have e2:=hxc.c2;have e3:=hxc.c3;have e4:=hxc.c4;have e5:=hxc.v0;have e6:=hxc.v1;have e7:=hxc.v2;have e8:=hxc.v3;have e9:=hxc.v4;have e10:=hxc.c6;have e11:=hxc.c7;have HX:=Lib.hid (Ex.new (XS:=xCells x vo ao mo vc ac mc) hd hCS);have HV:Hid (usesD m pr (k+1) k run= ((!(useT (x.op == 39) run ((pr:Int) == m.claim) (x.op == 31) (x.op == 2) (x.v.scope == 1)) && !((x.op == 2) && decide (roomL m pr x.v < reachL x.v))) && (partsL x).all (okU m pr))):=Lib.hid (by rw [uses_step hx run hk,use_tests]);have HVAR:=Lib.hid (var_of hx hk);have HOP:=Lib.hid (op_of hx hk);have HSM:=Lib.hid (parts_small hx hk);have HPB:Hid (∀q ∈ partsL x,0≤q∧q < (k:Int)):=Lib.hid (hx.ok _ _ hk).2;have HPR:=Lib.hid hpr;unfold xCells at HX;unfold mV;rw [←hCS];clear hd hCS hk hi ho he hxc hxc0 hr1 hr2 hr3 HX0 hx hpr;go_enter Tryz.func157,Tryz.ntmps157;go_upto_region 2 with fail
 generalize (w.alloc (.cells CS 29)).alloc (.cells #[.int .i64 x.op,.int .i64 x.n,.int .i64 x.a,.int .i64 x.b,.int .i64 x.c,.int .i64 x.v.scope,.int .i64 x.v.slot,.int .i64 x.v.who,.int .i64 x.v.type,.slice vo x.v.dims.length vc,.slice ao x.args.length ac,.slice mo x.mat.length mc] 144)=W1 at HX ⊢;clear e0 e1 e2 e3 e4 e5 e6 e7 e8 e9 e10 e11 c6 hg;obtain ⟨q39,h39⟩:∃q,(x.op == 39)=q:=⟨_,rfl⟩;obtain ⟨q31,h31⟩:∃q,(x.op == 31)=q:=⟨_,rfl⟩;obtain ⟨q2,h2⟩:∃q,(x.op == 2)=q:=⟨_,rfl⟩;obtain ⟨qs,hs⟩:∃q,(x.v.scope == 1)=q:=⟨_,rfl⟩;obtain ⟨qc,hc⟩:∃q,((pr:Int) == m.claim)=q:=⟨_,rfl⟩;have H2:=Lib.hid h2;rw [h39,h31,h2,hs,hc] at HV;have f0:W1.cell? ⟨w.heap.size+1,0,none⟩=some (.int .i64 x.op):=HX.out.xb.cell rfl;have f5:W1.cell? ⟨w.heap.size+1,5,none⟩=some (.int .i64 x.v.scope):=HX.out.xb.cell rfl;have c5:W1.cell? ⟨w.heap.size,5,none⟩=some (.int .i64 m.claim):=HX.out.mx.c5
 go_cut [51] from 18 to 51 (fun v wx=>v= .bool (useT q39 run qc q31 q2 qs)∧W1=wx)
 case first=>
  cases q39 <;> cases run <;> cases qc
  all_goals first
   | (go_wp2_with fail;go_meet;case rel=>exact ⟨rfl,rfl⟩)
   | (cases q31
      · first
         | (go_wp2_with fail;go_meet;case rel=>exact ⟨rfl,rfl⟩)
         | (cases q2
            · go_wp2_with fail;go_meet;case rel=>exact ⟨rfl,rfl⟩
            · cases qs
              · go_wp2_with fail;go_meet;case rel=>exact ⟨rfl,rfl⟩
              · go_wp2_with fail;go_meet;case rel=>exact ⟨rfl,rfl⟩)
      · go_wp2_with fail;go_meet;case rel=>exact ⟨rfl,rfl⟩)
 case rest=>
 obtain ⟨rfl,hwx⟩:=hcut;subst hwx;clear f0 f5 c5 h39 h31 hs hc h2;cases hut:useT q39 run qc q31 q2 qs;rotate_left
 · have HZ:Hid (usesD m pr (k+1) k run=false):=Lib.hid (by rw [HV.out,hut];rfl);go_wp2_with fail;go_ret;exact ⟨retB HZ.out.symm,HX.out.xb.bel⟩
 have HV2:Hid (usesD m pr (k+1) k run= (!(q2 && decide (roomL m pr x.v < reachL x.v)) && (partsL x).all (okU m pr))):=Lib.hid (by rw [HV.out,hut];rfl);clear hut HV;have h2:=H2.out;have f0:W1.cell? ⟨w.heap.size+1,0,none⟩=some (.int .i64 x.op):=HX.out.xb.cell rfl;go_upto_region 4 with fail
 go_cut [65] from 52 to 65 (fun v wx=>v= .bool (q2 && decide (roomL m pr x.v < reachL x.v))∧Hid (Ex w CS #[.int .i64 x.op,.int .i64 x.n,.int .i64 x.a,.int .i64 x.b,.int .i64 x.c,.int .i64 x.v.scope,.int .i64 x.v.slot,.int .i64 x.v.who,.int .i64 x.v.type,.slice vo x.v.dims.length vc,.slice ao x.args.length ac,.slice mo x.mat.length mc] h m wx))
 case first=>
  cases q2
  · go_wp2_with fail;go_quiet (fail);go_wp2_with fail;go_meet;case rel=>exact ⟨rfl,Lib.hid (HX.out.drewN _)⟩
  · have hop2:x.op=2:=by simpa using h2
    obtain ⟨u1,u2,u3⟩:=HVAR.out hop2;have HRE:Hid (∀W,Below w.heap.size w W→Calls Tryz.prog 133 #[.agg #[.int .i64 x.v.scope,.int .i64 x.v.slot,.int .i64 x.v.who,.int .i64 x.v.type,.slice vo x.v.dims.length vc]] W fun e w'=>e= .returned (.int .i64 (reachL x.v))∧Below W.heap.size W w'):=Lib.hid fun W hb=>reachH x.v vo vc w.heap.size W (HR1.out.mono fun _ _ _ hg=>dimAt.below hb hg) hb.size u3
    have HRO:Hid (∀W,MD W.heap.size W h m→Calls Tryz.prog 185 #[.agg #[.slice h.go m.globals.length h.gc,.slice h.io m.init.length h.ic,.slice h.so m.shapes.length h.sc,.slice h.co m.chans.length h.cc,.slice h.po m.procs.length h.pc,.int .i64 m.claim,.slice h.eo m.exprs.length h.ec],.int .i64 pr,.agg #[.int .i64 x.v.scope,.int .i64 x.v.slot,.int .i64 x.v.who,.int .i64 x.v.type,.slice vo x.v.dims.length vc]] W fun e w'=>e= .returned (.int .i64 (roomL m pr x.v))∧Below W.heap.size W w'):=Lib.hid fun W hd=>roomH pr x.v vo vc W hd u1 (fun _=>HPR.out) u2
    clear u1 u2 u3 hop2;have HXD:=Lib.hid (HX.out.below (Below.refl _ _).drew);have g0:W1.drew.cell? ⟨w.heap.size+1,0,none⟩=some (.int .i64 x.op):=HXD.out.xb.cell rfl;have g5:W1.drew.cell? ⟨w.heap.size+1,5,none⟩=some (.int .i64 x.v.scope):=HXD.out.xb.cell rfl;have g6:W1.drew.cell? ⟨w.heap.size+1,6,none⟩=some (.int .i64 x.v.slot):=HXD.out.xb.cell rfl;have g7:W1.drew.cell? ⟨w.heap.size+1,7,none⟩=some (.int .i64 x.v.who):=HXD.out.xb.cell rfl;have g8:W1.drew.cell? ⟨w.heap.size+1,8,none⟩=some (.int .i64 x.v.type):=HXD.out.xb.cell rfl;have g9:W1.drew.cell? ⟨w.heap.size+1,9,none⟩=some (.slice vo x.v.dims.length vc):=HXD.out.xb.cell rfl;have m0:=HXD.out.mx.c0;have m1:=HXD.out.mx.c1;have m2:=HXD.out.mx.c2;have m3:=HXD.out.mx.c3;have m4:=HXD.out.mx.c4;have m5:=HXD.out.mx.c5;have m6:=HXD.out.mx.c6;go_wp2_with fail
    go_region_law
     (first
       | (go_simp;go_at_call 133;refine (HRE.out _ HXD.out.xb.bel).mono ?_;rintro e w1 ⟨rfl,hb1⟩;have HX5:=Lib.hid (HXD.out.below hb1);have n5:w1.cell? ⟨w.heap.size+1,5,none⟩=some (.int .i64 x.v.scope):=HX5.out.xb.cell rfl;have n6:w1.cell? ⟨w.heap.size+1,6,none⟩=some (.int .i64 x.v.slot):=HX5.out.xb.cell rfl;have n7:w1.cell? ⟨w.heap.size+1,7,none⟩=some (.int .i64 x.v.who):=HX5.out.xb.cell rfl;have n8:w1.cell? ⟨w.heap.size+1,8,none⟩=some (.int .i64 x.v.type):=HX5.out.xb.cell rfl;have n9:w1.cell? ⟨w.heap.size+1,9,none⟩=some (.slice vo x.v.dims.length vc):=HX5.out.xb.cell rfl;have k0:=HX5.out.mx.c0;have k1:=HX5.out.mx.c1;have k2:=HX5.out.mx.c2;have k3:=HX5.out.mx.c3;have k4:=HX5.out.mx.c4;have k5:=HX5.out.mx.c5;have k6:=HX5.out.mx.c6;clear hb1)
       | (go_simp;go_at_call 185;refine (HRO.out _ HX5.out.mx.here).mono ?_;rintro e w2 ⟨rfl,hb2⟩;have HX6:=Lib.hid (HX5.out.below hb2);clear hb2))
    all_goals (
     try simp only [Exit.inBlock,Exit.then]
     go_wp2_with fail;go_meet;case rel=>exact ⟨by first | rfl | simp,HX6⟩)
 case rest=>
 obtain ⟨rfl,HX7⟩:=hcut;clear f0 h2;cases hrt: (q2 && decide (roomL m pr x.v < reachL x.v));rotate_left
 · have HZ:Hid (usesD m pr (k+1) k run=false):=Lib.hid (by rw [HV2.out,hrt];rfl);go_wp2_with fail;go_ret;exact ⟨retB HZ.out.symm,HX7.out.xb.bel⟩
 have HV3:Hid (usesD m pr (k+1) k run= (partsL x).all (okU m pr)):=Lib.hid (by rw [HV2.out,hrt];rfl);clear hrt HV2 HX;have HHE:=Lib.hid (heldH (B:=w.heap.size) x vo ao mo vc ac mc wc HOP.out HX7.out.xb.bel.size (HR1.out.mono fun _ _ _ hg=>dimAt.below HX7.out.xb.bel hg) (HR2.out.mono fun _ _ _ hg=>intAt.below HX7.out.xb.bel hg) (by have:=HSM.out;omega));have lsm:=HSM.out;go_wp2_with (refine wpList_load_row rfl _ _ rfl _ rfl _ #[.int .i64 x.op,.int .i64 x.n,.int .i64 x.a,.int .i64 x.b,.int .i64 x.c,.int .i64 x.v.scope,.int .i64 x.v.slot,.int .i64 x.v.who,.int .i64 x.v.type,.slice vo x.v.dims.length vc,.slice ao x.args.length ac,.slice mo x.mat.length mc] _ _ HX7.out.xb.box Tryz.underlying144 rfl (by kernel_rfl) ?_);refine HHE.out.mono ?_;rintro e W8 ⟨lo,lc,rfl,⟨hrl,-⟩,hb8⟩;have HX8:=Lib.hid (HX7.out.below hb8);have HRL:=Lib.hid hrl;obtain ⟨L,hL⟩:∃L,partsL x=L:=⟨_,rfl⟩;rw [hL] at HRL HV3 HPB lsm;rw [hL];have HB8:Hid (Below W8.heap.size W8 W8):=Lib.hid (Below.refl _ _);clear hrl hb8 hL HHE HSM;go_wp2_with fail
 go_loopw [11] (fun jv wr=>∃j:Nat,jv= .int .i64 j∧j≤L.length∧Hid (∀i (hi:i < L.length),i < j→okU m pr L[i]=true)∧Hid (Below W8.heap.size W8 wr)) (fun jv _=>L.length - (intOf jv).toNat)
 case atStart=>exact ⟨0,rfl,by omega,Lib.hid fun j _ h=>by omega,HB8⟩
 case round=>
  clear HB8;obtain ⟨j,rfl,hj,HJ,HB⟩:=hrel;have hj0: (0:Int)≤j:=by omega
  have hj00:0≤j:=by omega
  by_cases hlt:j < L.length
  · have hlti: (j:Int) < L.length:=by omega
    obtain ⟨gl,offl,hlo,hgl,el⟩:=HRL.out.cell hlt;have hpb:=HPB.out _ (List.getElem_mem hlt);obtain ⟨q,hq⟩:∃q:Nat,L[j]=q:=⟨L[j].toNat,by omega⟩;have HX:=Lib.hid (HX8.out.below HB.out);have cl:wr.cell? ⟨gl,offl+j,none⟩=some (.int .i64 q):=by
     have:=(HB.out.cell (p:=⟨gl,offl+j*1,none⟩) hgl).trans el;rw [Nat.mul_one,hq] at this;exact this
    have HIH:=Lib.hid (fun (W:World) (hd:MD W.heap.size W h m)=>IH q (by rw [hq] at hpb;omega) W hd);have HBAD:Hid (okU m pr q=false→usesD m pr (k+1) k run=false):=Lib.hid fun h=>by rw [HV3.out,all_bad hlt (by rw [hq];exact h)]
    have HGO:Hid (okU m pr q=true→∀i (hi:i < L.length),i < j+1→okU m pr L[i]=true):=Lib.hid fun h i hi hij=>by
     by_cases e:i=j
     · subst e;rw [hq];exact h
     · exact HJ.out i hi (by omega)
    have HLO:=Lib.hid hlo;have m0:=HX.out.mx.c0;have m1:=HX.out.mx.c1;have m2:=HX.out.mx.c2;have m3:=HX.out.mx.c3;have m4:=HX.out.mx.c4;have m5:=HX.out.mx.c5;have m6:=HX.out.mx.c6;have hlo2:∀n:Nat,Value.slice lo n lc=Value.slice (some ⟨gl,offl,none⟩) n lc:=fun n=>by rw [HLO.out]
    rw [hlo2];clear hlo hlo2 el hpb hq hgl HJ;go_wp2_with fail;go_still_tail 6,(by kernel_rfl);change wpList _ _ _ _ _ wr.drew;have HXD:=Lib.hid (HX.out.below (Below.refl _ _).drew);have HBD:Hid (Below W8.heap.size W8 wr.drew):=Lib.hid HB.out.drew;generalize wr.drew=W9 at HXD HBD ⊢;have HIH2:=Lib.hid (HIH.out W9 HXD.out.mx.here);unfold mV mCells at HIH2;clear m0 m1 m2 m3 m4 m5 m6 cl HIH HX;go_wp2_with fail;refine HIH2.out.mono ?_;rintro e W10 ⟨rfl,hb10⟩;have HB10:Hid (Below W8.heap.size W8 W10):=Lib.hid (HBD.out.trans (hb10.mono HBD.out.size));clear hb10 HIH2 HXD HBD;obtain ⟨t,ht⟩:∃t,okU m pr q=t:=⟨_,rfl⟩;rw [ht] at HBAD HGO;rw [ht];clear ht;cases t
    · have HZ:=Lib.hid (HBAD.out rfl);go_wp2_with fail;go_ret;exact ⟨retB HZ.out.symm,(HX8.out.below HB10.out).xb.bel⟩
    · have HZ:=Lib.hid (HGO.out rfl);go_wp2_with fail;go_roundw;case rel=>exact ⟨j+1,by go_num,by omega,HZ,HB10⟩
      case measure=>simp [intOf];omega
  · have hlti:¬ (j:Int) < L.length:=by omega
    have HZ:Hid (usesD m pr (k+1) k run=true):=Lib.hid (by rw [HV3.out];exact all_of fun i hi=>HJ.out i hi (by omega));go_wp2_with fail;go_ret;exact ⟨retB HZ.out.symm,(HX8.out.below HB.out).xb.bel⟩
theorem usesH {h:MH} {m:ModelD} (hx:EX m) (pr:Nat) (hpr:pr < m.procs.length):∀ (k:Nat),k < m.exprs.length→∀ (run:Bool) (w:World),MD w.heap.size w h m→Calls Tryz.prog 157 #[mV h m,.int .i64 pr,.int .i64 k,.bool run] w fun e w'=>e= .returned (.bool (usesD m pr (k+1) k run))∧Below w.heap.size w w'
 | k,hk,run,w,hd=>usesStepH hx pr hpr k m.exprs[k] (List.getElem?_eq_getElem hk) (fun q hq W hW=>usesH hx pr hpr q (by omega) false W hW) run w hd
termination_by k=>k
end Go.Proofs.YthfldokfnjpkmaaGreatDoor
namespace Go.Proofs.YthfldokfnjpkmaaGreatDoor
open Go.ChangeShapes Go.WideShapes Go.ChangeAt Go.RowKit
def plainB (s:StmtD):Bool:=decide (s.args.length=0) && decide (s.mat.length=0)
def noText (s:StmtD):Bool:=decide (s.text.size=0)
def dstmtB (m:ModelD) (s:StmtD):Bool:=
 if s.kind=1∨s.kind=3 then isExprB m s.a && (s.b == -1) && plainB s && (s.n == 0) && noText s
 else if s.kind=2 then settableB m s.a && isExprB m s.b && plainB s && (s.n == 0) && noText s
 else if s.kind=4 then (s.a == -1) && (s.b == -1) && s.args.all (isExprB m) && decide (s.mat.length=0) && (s.n == 0) && decide (s.text.size≤256)
 else if s.kind=5 then isExprB m s.a && (s.b == -1) && s.args.all (isExprB m) && decide (1≤s.args.length) && decide (s.args.length≤8) && decide (s.mat.length=0) && ((s.n == 0) || (s.n == 1)) && noText s
 else if s.kind=6 then isExprB m s.a && (s.b == -1) && dmatB m m.exprs.length s.args s.mat && decide (0≤s.n) && decide (s.n≤3) && noText s && (s.args.zip s.mat).all (recvB m)
 else if s.kind=7∨s.kind=8 then (s.a == -1) && (s.b == -1) && plainB s && (s.n == 0) && noText s
 else if s.kind=9 then settableB m s.a && (s.b == -1) && plainB s && decide (0≤s.n) && decide (s.n < m.shapes.length) && noText s
 else false
theorem below_exprs (m:ModelD) (l:List Int):belowB m.exprs.length l=l.all (isExprB m):=rfl
theorem mat_rec {m:ModelD} (args mat:List Int): (dmatB m m.exprs.length args mat && (args.zip mat).all (recvB m))= (fieldsB m args mat && args.all (isExprB m) && (args.zip mat).all (recvB m)):=by
 rw [mat_is (Int.le_refl _),below_exprs]
theorem stmt_is (m:ModelD) (s:StmtD):dstmtB m s=stmtB m s:=by
 obtain ⟨k,a,b,n,args,mat,text⟩:=s;have e3:=mat_rec (m:=m) args mat;have e4:args.length=0→args.all (isExprB m)=true:=fun h=>by rw [List.eq_nil_of_length_eq_zero h];rfl
 have e5:a= -1→isExprB m a=false:=fun h=>by unfold isExprB;rw [decide_eq_false (by omega)]
 have e6:b= -1→isExprB m b=false:=fun h=>by unfold isExprB;rw [decide_eq_false (by omega)]
 have e7:settableB m a=true→isExprB m a=true:=fun h=>by unfold settableB isVarB at h;simp only [Bool.and_eq_true] at h;exact h.1.1
 have e8:receivesB m ⟨k,a,b,n,args,mat,text⟩=true→fieldsB m args mat=true∧ (args.zip mat).all (recvB m)=true:=fun h=>by unfold receivesB at h;simpa using h
 have e9:fieldsB m args mat=true→ (args.zip mat).all (recvB m)=true→receivesB m ⟨k,a,b,n,args,mat,text⟩=true:=fun h h2=>by unfold receivesB;simp only [h,h2];rfl
 have e10:fieldsB m args mat=true→1≤args.length∧args.length≤8:=fun h=>by
  unfold fieldsB at h;simp only [Bool.and_eq_true,Bool.not_eq_true',decide_eq_false_iff_not] at h;omega
 unfold stmtB dstmtB askOf askAB askN plainB noText;simp only;generalize isExprB m a=va at*;generalize isExprB m b=vb at*;generalize settableB m a=vs at*;generalize args.all (isExprB m)=vl at*;generalize dmatB m m.exprs.length args mat=vd at*;generalize fieldsB m args mat=vf at*;generalize (args.zip mat).all (recvB m)=vr at*;generalize receivesB m ⟨k,a,b,n,args,mat,text⟩=vq at*;generalize args.length=la at*;generalize mat.length=lm at*;generalize text.size=lt at*;generalize m.shapes.length=ls at*;by_cases h1:k=1∨k=3
 · have e2:¬ (k=2∨k=9):=by omega
   rw [if_pos h1,if_pos h1];dsimp only;grind
 rw [if_neg h1,if_neg h1];by_cases h2:k=2
 · rw [if_pos h2,if_pos h2];dsimp only;grind
 rw [if_neg h2,if_neg h2];by_cases h4:k=4
 · rw [if_pos h4,if_pos h4];dsimp only;grind
 rw [if_neg h4,if_neg h4];by_cases h5:k=5
 · rw [if_pos h5,if_pos h5];dsimp only;grind
 rw [if_neg h5,if_neg h5];by_cases h6:k=6
 · rw [if_pos h6,if_pos h6];dsimp only;grind
 rw [if_neg h6,if_neg h6];by_cases h7:k=7∨k=8
 · rw [if_pos h7,if_pos h7];dsimp only;grind
 rw [if_neg h7,if_neg h7];by_cases h9:k=9
 · rw [if_pos h9,if_pos h9];dsimp only;grind
 rw [if_neg h9,if_neg h9]
end Go.Proofs.YthfldokfnjpkmaaGreatDoor
