/- Which slot a variable has. -/
import Derived.Test.YthfldokfnjpkmaaGreatDoorM16
import Derived.Test.YthfldokfnjpkmaaGreatDoorM09
set_option linter.unusedVariables false
set_option linter.unusedSimpArgs false
namespace Go.Proofs.YthfldokfnjpkmaaGreatDoor
open Go.ChangeShapes Go.WideShapes Go.ChangeAt Go.RowKit
theorem ret3 {a b c:Int} {r:Int × Int × Int} (h:r= (a,b,c)):Ending.returned (.tuple #[.int .i64 a,.int .i64 b,.int .i64 c])= .returned (.tuple #[.int .i64 r.1,.int .i64 r.2.1,.int .i64 r.2.2]):=by rw [h]
theorem slot_pid {E:EnvD} {ev:Int→Int × Int} {x:ExprD} {er:Int} (h1:x.op=2) (h2: (pidB E ev x.v).2=er) (h3:er≠0):rslotB E ev x= (0,0,er):=by
 unfold rslotB;rw [if_neg (by simp [h1]),h2,if_pos h3]
theorem slot_short {E:EnvD} {ev:Int→Int × Int} {x:ExprD} {q:Int} (h1:x.op=2) (h2:pidB E ev x.v= (q,0)) (h3: ((slotsL E q).length:Int) < reachL x.v):rslotB E ev x= (0,0,42):=by
 unfold rslotB;rw [if_neg (by simp [h1]),h2,if_neg (by simp),if_pos h3]
theorem slot_dims {E:EnvD} {ev:Int→Int × Int} {x:ExprD} {q:Int} {R:Int × Int} (h1:x.op=2) (h2:pidB E ev x.v= (q,0)) (h3:¬ ((slotsL E q).length:Int) < reachL x.v) (h4:dimsF ev x.v.dims x.v.slot=R):rslotB E ev x=if R.2≠0 then (0,0,R.2) else (q,R.1,0):=by
 unfold rslotB;rw [if_neg (by simp [h1]),h2,if_neg (by simp),if_neg h3,h4]
theorem dims_step {ev:Int→Int × Int} {l:List DimD} {i:Nat} {a:Int} {R:Int × Int} (hi:i < l.length) (h:dimsF ev (l.drop i) a=R): (if (ev l[i].i).2≠0 then (0,(ev l[i].i).2) else if (ev l[i].i).1 < 0∨l[i].len≤ (ev l[i].i).1 then (0,47) else dimsF ev (l.drop (i+1)) (a+ (ev l[i].i).1*l[i].stride))=R:=by
 rw [List.drop_eq_getElem_cons hi] at h;exact h
theorem dims_end {ev:Int→Int × Int} {l:List DimD} {i:Nat} {a:Int} {R:Int × Int} (hi:¬i < l.length) (h:dimsF ev (l.drop i) a=R):R= (a,0):=by
 rw [List.drop_eq_nil_of_le (by omega)] at h;exact h.symm
theorem typeOf_get {E:EnvD} {k:Nat} {p:ProcessD} (h:E.s.procs[k]? =some p):typeOfP E k=p.type:=by
 unfold typeOfP;rw [Int.toNat_natCast,h];rfl
structure VarF (v:VarD):Prop where
 s0:0≤v.scope
 s1:v.scope≤2
 t0:0≤v.slot
 t1:v.slot≤128
 n:v.dims.length≤4
 d:∀d ∈ v.dims,1≤d.len∧d.len≤128∧0≤d.stride∧d.stride≤128
theorem VarF.of {m:ModelD} {v:VarD} (h:varB m v=true):VarF v:=by
 unfold varB varHeadB at h;simp only [Bool.and_eq_true,Bool.not_eq_true',decide_eq_false_iff_not] at h;obtain ⟨⟨h1,h2⟩,-⟩:=h;refine ⟨by omega,by omega,by omega,by omega,by omega,fun d hd=> ?_⟩;have h3:=List.all_eq_true.1 h2 d hd;unfold dimB at h3;simp only [Bool.not_eq_true',decide_eq_false_iff_not] at h3;omega
set_option maxHeartbeats 4000000 in
set_option maxRecDepth 100000 in
theorem slotC {B pe:Nat} {h:MH} {hs:SH} {ao:Option Addr} {ac:Nat} {E:EnvD} {ev:Int→Int × Int} {N p:Nat} {x:ExprD} (w:World) (hk:Ek B w pe h hs ao ac E) (hok:Ok E) (he:EvC B pe h hs ao ac E ev N) (hx:E.m.exprs[p]? =some x) (hv:x.op=2→VarF x.v) (hwho:x.op=2→x.v.scope=2→0≤x.v.who∧x.v.who < N) (hd:x.op=2→∀d ∈ x.v.dims,0≤d.i∧d.i < N):
 Calls Tryz.prog 62 #[.pointer (some ⟨pe,0,none⟩),.int .i64 p] w fun e w'=>e= .returned (.tuple #[.int .i64 (rslotB E ev x).1,.int .i64 (rslotB E ev x).2.1,.int .i64 (rslotB E ev x).2.2])∧Below w.heap.size w w':=by
 have HK:=Lib.hid hk;have HO:=Lib.hid hok;have HE:=Lib.hid he;have hB:B≤w.heap.size:=hk.leW;have c6:=hk.ck.c6;have hel:=hk.ck.md.exprs.1;obtain ⟨g,off,ho,hg,hxa⟩:=hk.ck.md.exprs.get hx;have hpl:p < E.m.exprs.length:=(List.getElem?_eq_some_iff.1 hx).1;have hpi: (p:Int) < E.m.exprs.length:=by omega
 have hp0: (0:Int)≤p:=by omega
 rw [ho] at c6;have x0:=hxa.c0;have hgw:g < w.heap.size:=by omega
 by_cases h2:x.op=2
 · have hq: (x.op != 2)=false:=by rw [bne_eq_false_iff_eq];exact h2
   have HVF:=Lib.hid (hv h2);have HWH:=Lib.hid (hwho h2);have HD:=Lib.hid (hd h2);have HOP:=Lib.hid h2;obtain ⟨dO,dc,v4,hdr⟩:=hxa.v.dims;have hdl:=hdr.1;have HCX:Hid (∀W,Below w.heap.size w W→W.cell? ⟨g,off+p*12+5,none⟩=some (.int .i64 x.v.scope)∧W.cell? ⟨g,off+p*12+5+1,none⟩=some (.int .i64 x.v.slot)∧W.cell? ⟨g,off+p*12+5+2,none⟩=some (.int .i64 x.v.who)∧W.cell? ⟨g,off+p*12+5+3,none⟩=some (.int .i64 x.v.type)∧W.cell? ⟨g,off+p*12+5+4,none⟩=some (.slice dO x.v.dims.length dc)∧Row B dO 3 (dimAt W) x.v.dims):=Lib.hid fun W hb=>
    ⟨(hb.cell hgw).trans hxa.v.c0,(hb.cell hgw).trans hxa.v.c1,(hb.cell hgw).trans hxa.v.c2,(hb.cell hgw).trans hxa.v.c3,(hb.cell hgw).trans v4,hdr.mono fun _ _ _ hg=>dimAt.below (hb.mono hB) hg⟩
   obtain ⟨v0,v1,v2,v3,v4,-⟩:=HCX.out w (Below.refl _ _);clear hdr hxa ho hx hk hok he hv hwho hd h2;go_enter Tryz.func62,Tryz.ntmps62;go_upto_block 0 with fail
   go_cut [8,9,10] from 33 to 85 (fun v8 v9 v10 wx=>∃q:Int,v8= .int .i64 q∧ -1≤q∧q < E.s.procs.length∧Hid (pidB E ev x.v= (q,0))∧Hid (Below w.heap.size w wx))
   case first=>
    have hsc:x.v.scope=0∨x.v.scope=1∨x.v.scope=2:=by have:=HVF.out.s0;have:=HVF.out.s1;omega
    rcases hsc with e | e | e
    · have b1: (x.v.scope == 1)=false:=by simp [e]
      have b2: (x.v.scope == 2)=false:=by simp [e]
      have HP:Hid (pidB E ev x.v= (-1,0)):=Lib.hid (by unfold pidB;rw [if_neg (by simp [e]),if_neg (by simp [e])]);clear e;go_wp2_with fail;go_meet;case rel=>exact ⟨-1,rfl,by omega,by omega,HP,Lib.hid (Below.refl _ _)⟩
    · have b1: (x.v.scope == 1)=true:=by simp [e]
      have c13:=HK.out.c13;have hpr:=HO.out.pid;by_cases hn:E.pid < 0
      · have hnd:decide (E.pid < 0)=true:=decide_eq_true hn;have HZ:Hid (rslotB E ev x= (0,0,42)):=Lib.hid (slot_pid HOP.out (by unfold pidB;rw [if_pos e,if_pos hn]) (by decide));clear e hpr;go_wp2_with fail;go_ret3;exact ⟨ret3 HZ.out,Below.refl _ _⟩
      · have hnd:decide (E.pid < 0)=false:=decide_eq_false hn;have HP:Hid (pidB E ev x.v= (E.pid,0)):=Lib.hid (by unfold pidB;rw [if_pos e,if_neg hn]);clear e;go_wp2_with fail;go_meet;case rel=>exact ⟨E.pid,rfl,by omega,by omega,HP,Lib.hid (Below.refl _ _)⟩
    · have b1: (x.v.scope == 1)=false:=by simp [e]
      have b2: (x.v.scope == 2)=true:=by simp [e]
      have HEC:=Lib.hid (HE.out x.v.who w (HWH.out e).1 (HWH.out e).2 HK.out);obtain ⟨⟨who,er⟩,hev⟩:∃q,ev x.v.who=q:=⟨_,rfl⟩;rw [hev] at HEC;simp only at HEC;have HPB:Hid (pidB E ev x.v=if er≠0 then (0,er) else if who < 0∨ (E.s.procs.length:Int)≤who∨typeOfP E who≠x.v.type then (0,52) else (who,0)):=Lib.hid (by unfold pidB;rw [if_neg (by simp [e]),if_pos e,hev]);clear e hev;go_wp2_with fail;refine HEC.out.mono ?_;rintro e W1 ⟨rfl,hb1⟩;have HB1:=Lib.hid hb1;have HK1:=Lib.hid (HK.out.below hb1);clear hb1 v0 v1 v2 v3 v4 c6 x0 HEC;by_cases h0:er=0
      · have hd0: (er != 0)=false:=by rw [bne_eq_false_iff_eq];exact h0
        subst h0;have c9:=HK1.out.sk.c2;have hpl1:=HK1.out.sk.sd.procs.1;obtain ⟨v0,v1,v2,v3,v4,-⟩:=HCX.out W1 HB1.out;by_cases h1:who < 0
        · have hd1:decide (who < 0)=true:=decide_eq_true h1;have HZ:Hid (rslotB E ev x= (0,0,52)):=Lib.hid (slot_pid HOP.out (er:=52) (by rw [HPB.out,if_neg (by simp),if_pos (.inl h1)]) (by decide));go_wp2_with fail;go_quiet (fail);go_wp2_with fail;go_ret3;exact ⟨ret3 HZ.out,bdrew HB1.out _⟩
        · have hd1:decide (who < 0)=false:=decide_eq_false h1;by_cases h2: (E.s.procs.length:Int)≤who
          · have hd2:decide ((E.s.procs.length:Int)≤who)=true:=decide_eq_true h2;have HZ:Hid (rslotB E ev x= (0,0,52)):=Lib.hid (slot_pid HOP.out (er:=52) (by rw [HPB.out,if_neg (by simp),if_pos (.inr (.inl h2))]) (by decide));go_wp2_with fail;go_quiet (fail);go_wp2_with fail;go_ret3;exact ⟨ret3 HZ.out,bdrew HB1.out _⟩
          · obtain ⟨k,rfl⟩:∃k:Nat,who=k:=⟨who.toNat,by omega⟩;have hd2:decide ((E.s.procs.length:Int)≤ (k:Int))=false:=decide_eq_false h2;have hd2n:decide (E.s.procs.length≤k)=false:=decide_eq_false (by omega);have hkl:k < E.s.procs.length:=by omega
            have hki: (k:Int) < E.s.procs.length:=by omega
            have hkz: (0:Int)≤k:=by omega
            obtain ⟨pr,hpr⟩:∃s,E.s.procs[k]? =some s:=⟨_,List.getElem?_eq_getElem hkl⟩;obtain ⟨g1,off1,ho1,hg1,hpa⟩:=HK1.out.sk.sd.procs.get hpr;have q0:=hpa.c0;rw [ho1] at c9;have HT:=Lib.hid (typeOf_get hpr);clear hpa ho1 hpr;by_cases ht:pr.type=x.v.type
            · have hdt: (pr.type != x.v.type)=false:=by rw [bne_eq_false_iff_eq];exact ht
              have HP:Hid (pidB E ev x.v= ((k:Int),0)):=Lib.hid (by rw [HPB.out,if_neg (by simp),if_neg (by rw [HT.out];omega)]);clear ht;go_wp2_with fail;go_quiet (fail);have HB2:Hid (Below w.heap.size w (W1.drewN nq)):=Lib.hid (bdrew HB1.out nq);generalize W1.drewN nq=W2 at HB2 ⊢;clear c9 v0 v1 v2 v3 v4 q0;go_wp2_with fail;go_meet;case rel=>exact ⟨(k:Int),rfl,by omega,by omega,HP,HB2⟩
            · have hdt: (pr.type != x.v.type)=true:=by rw [bne_iff_ne];exact ht
              have HZ:Hid (rslotB E ev x= (0,0,52)):=Lib.hid (slot_pid HOP.out (er:=52) (by rw [HPB.out,if_neg (by simp),if_pos (.inr (.inr (by rw [HT.out];exact ht)))]) (by decide));clear ht;go_wp2_with fail;go_quiet (fail);go_wp2_with fail;go_ret3;exact ⟨ret3 HZ.out,bdrew HB1.out _⟩
      · have hd0: (er != 0)=true:=by rw [bne_iff_ne];exact h0
        have HZ:Hid (rslotB E ev x= (0,0,er)):=Lib.hid (slot_pid HOP.out (by rw [HPB.out,if_pos h0]) h0);go_wp2_with fail;go_ret3;exact ⟨ret3 HZ.out,HB1.out⟩
   case rest=>
    obtain ⟨q,rfl,hq0,hq1,HP,HB⟩:=hcut;clear v0 v1 v2 v3 v4 c6 x0;obtain ⟨v0,v1,v2,v3,v4,hdw⟩:=HCX.out wc HB.out;have HRC:=Lib.hid (reachC x.v dO dc B wc hdw (Nat.le_trans hB HB.out.size));clear hdw;go_wp2_with fail;refine HRC.out.mono ?_;rintro e W1 ⟨rfl,hb1⟩;have HB1:Hid (Below w.heap.size w W1):=Lib.hid (HB.out.trans (hb1.mono HB.out.size));clear hb1 v0 v1 v2 v3 v4 HRC;go_wp2_with fail;refine (slotsC q W1 (HK.out.below HB1.out) hq1).mono ?_;rintro e W2 ⟨so,sc,hsr,rfl,rfl⟩;have hsl:=hsr.1;clear hsr;by_cases hsh: ((slotsL E q).length:Int) < reachL x.v
    · have hds:decide (((slotsL E q).length:Int) < reachL x.v)=true:=decide_eq_true hsh;have HZ:=Lib.hid (slot_short HOP.out HP.out hsh);go_wp2_with fail;go_ret3;exact ⟨ret3 HZ.out,HB1.out⟩
    · have hds:decide (((slotsL E q).length:Int) < reachL x.v)=false:=decide_eq_false hsh;obtain ⟨R,hR⟩:∃R,dimsF ev x.v.dims x.v.slot=R:=⟨_,rfl⟩;have HV:=Lib.hid (slot_dims HOP.out HP.out hsh hR);have HR0:Hid (dimsF ev (x.v.dims.drop 0) x.v.slot=R):=Lib.hid hR;have hsl0:=HVF.out.t0;have hsl1:=HVF.out.t1;obtain ⟨v0,v1,v2,v3,v4,-⟩:=HCX.out W1 HB1.out;clear hR hsh;go_wp2_with fail;clear v0 v1 v2 v3 v4 hds
      go_loopw [11,107] (fun av iv W=>∃ (i:Nat) (a:Int),av= .int .i64 a∧iv= .int .i64 i∧i≤x.v.dims.length∧0≤a∧a≤128+i*16384∧Hid (dimsF ev (x.v.dims.drop i) a=R)∧Hid (Below w.heap.size w W)) (fun _ iv _=>x.v.dims.length - (intOf iv).toNat)
      case atStart=>exact ⟨0,x.v.slot,rfl,rfl,by omega,hsl0,by omega,HR0,HB1⟩
      case round=>
       clear HB1 HR0 HB;obtain ⟨i,a,rfl,rfl,hi,ha0,ha1,HF,HB⟩:=hrel;have hi0: (0:Int)≤i:=by omega
       have hn4:=HVF.out.n;by_cases hlt:i < x.v.dims.length
       · have hlti: (i:Int) < x.v.dims.length:=by omega
         have HS:=Lib.hid (dims_step hlt HF.out);obtain ⟨g1,off1,ho1,hg1,e0,e1,e2⟩:=((HCX.out wr HB.out).2.2.2.2.2).cell hlt;subst ho1;obtain ⟨⟨I,L,S⟩,hdd⟩:∃d,x.v.dims[i]=d:=⟨_,rfl⟩;have hmem: ⟨I,L,S⟩ ∈ x.v.dims:=hdd ▸ List.getElem_mem hlt;have hdf:=HVF.out.d _ hmem;have hdi:=HD.out _ hmem;rw [hdd] at e0 e1 e2 HS;simp only at e0 e1 e2 hdf hdi HS;have HX:=Lib.hid (Bx.new wr #[.int .i64 I,.int .i64 L,.int .i64 S] 201);have HEC:=Lib.hid (HE.out I (wr.alloc (Obj.cells #[.int .i64 I,.int .i64 L,.int .i64 S] 201)) hdi.1 hdi.2 (HK.out.below (HB.out.trans (HX.out.bel.mono HB.out.size))));obtain ⟨⟨v,er⟩,hev⟩:∃q,ev I=q:=⟨_,rfl⟩;rw [hev] at HEC HS;simp only at HEC HS;clear hmem hdd hev;go_wp2_with fail;generalize wr.alloc (Obj.cells #[.int .i64 I,.int .i64 L,.int .i64 S] 201)=W3 at HX HEC ⊢;have y0:W3.cell? ⟨wr.heap.size,0,none⟩=some (.int .i64 I):=HX.out.cell rfl;clear e0 e1 e2;go_wp2_with fail;refine HEC.out.mono ?_;rintro e W4 ⟨rfl,hb4⟩;have HX4:=Lib.hid (HX.out.below hb4);have HB4:Hid (Below w.heap.size w W4):=Lib.hid (HB.out.trans (HX4.out.bel.mono HB.out.size));have y1:W4.cell? ⟨wr.heap.size,1,none⟩=some (.int .i64 L):=HX4.out.cell rfl;have y2:W4.cell? ⟨wr.heap.size,2,none⟩=some (.int .i64 S):=HX4.out.cell rfl;clear hb4 y0 HX HEC;by_cases h0:er=0
         · have hd0: (er != 0)=false:=by rw [bne_eq_false_iff_eq];exact h0
           subst h0;by_cases h1:v < 0
           · have hd1:decide (v < 0)=true:=decide_eq_true h1;have HZ:Hid (rslotB E ev x= (0,0,47)):=Lib.hid (by have hr:=HS.out;rw [if_neg (by simp),if_pos (.inl h1)] at hr;rw [HV.out,←hr];rfl);go_wp2_with fail;go_ret3;exact ⟨ret3 HZ.out,HB4.out⟩
           · have hd1:decide (v < 0)=false:=decide_eq_false h1;by_cases h2:L≤v
             · have hd2:decide (L≤v)=true:=decide_eq_true h2;have HZ:Hid (rslotB E ev x= (0,0,47)):=Lib.hid (by have hr:=HS.out;rw [if_neg (by simp),if_pos (.inr h2)] at hr;rw [HV.out,←hr];rfl);go_wp2_with fail;go_ret3;exact ⟨ret3 HZ.out,HB4.out⟩
             · have hd2:decide (L≤v)=false:=decide_eq_false h2;have hm0:0≤v*S:=Int.mul_nonneg (by omega) (by omega);have hm1:v*S≤16384:=Int.le_trans (Int.mul_le_mul (by omega:v≤128) (by omega:S≤128) (by omega) (by decide)) (by decide);have HG:Hid (dimsF ev (x.v.dims.drop (i+1)) (a+v*S)=R):=Lib.hid (by have:=HS.out;rw [if_neg (by simp),if_neg (by omega)] at this;exact this);go_wp2_with fail;go_roundw;case rel=>exact ⟨i+1,a+v*S,by go_num,by go_num,by omega,by omega,by omega,HG,HB4⟩
               case measure=>simp [intOf];omega
         · have hd0: (er != 0)=true:=by rw [bne_iff_ne];exact h0
           have HZ:Hid (rslotB E ev x= (0,0,er)):=Lib.hid (by have hr:=HS.out;rw [if_pos h0] at hr;rw [HV.out,←hr,if_pos (by exact h0)]);go_wp2_with fail;go_ret3;exact ⟨ret3 HZ.out,HB4.out⟩
       · have hlti:¬ (i:Int) < x.v.dims.length:=by omega
         have HE2:=Lib.hid (dims_end hlt HF.out);have HZ:Hid (rslotB E ev x= (q,a,0)):=Lib.hid (by rw [HV.out,HE2.out];rfl);go_wp2_with fail;go_ret3;exact ⟨ret3 HZ.out,HB.out⟩
 · have hq: (x.op != 2)=true:=by rw [bne_iff_ne];exact h2
   have HZ:Hid (rslotB E ev x= (0,0,42)):=Lib.hid (by unfold rslotB;rw [if_pos h2]);go_enter Tryz.func62,Tryz.ntmps62;go_wp2_with fail;go_ret3;exact ⟨ret3 HZ.out,Below.refl _ _⟩
end Go.Proofs.YthfldokfnjpkmaaGreatDoor
namespace Go.Proofs.YthfldokfnjpkmaaGreatDoor
open Go.ChangeShapes Go.WideShapes Go.ChangeAt Go.RowKit
def put3 (i:Nat) (v:Int) (p:Int × Int × Int):Int × Int × Int:=if i=0 then (v,p.2.1,p.2.2) else if i=1 then (p.1,v,p.2.2) else (p.1,p.2.1,v)
def get3 (i:Nat) (p:Int × Int × Int):Int:=if i=0 then p.1 else if i=1 then p.2.1 else p.2.2
structure PS3 (w0:World) (pe:Nat) (x:ExprD) (ps:Int × Int × Int) (W:World):Prop where
 be:W.heap[w0.heap.size]? =some (.cells #[.pointer (some ⟨pe,0,none⟩)] 77 (0,0))
 bp:W.heap[w0.heap.size+1]? =some (.cells #[.int .i64 ps.1,.int .i64 ps.2.1,.int .i64 ps.2.2] 145 (0,0))
 ba:W.heap[w0.heap.size+2]? =some (.cells #[.int .i64 x.a,.int .i64 x.b,.int .i64 x.c] 146 (0,0))
 bel:Below w0.heap.size w0 W
theorem PS3.below {w0 W W':World} {pe:Nat} {x:ExprD} {ps:Int × Int × Int} (k:PS3 w0 pe x ps W) (hb:Below W.heap.size W W'):PS3 w0 pe x ps W':=
 ⟨(hb.block _ (lt_of_block k.be)).trans k.be,(hb.block _ (lt_of_block k.bp)).trans k.bp,(hb.block _ (lt_of_block k.ba)).trans k.ba,k.bel.trans (hb.mono k.bel.size)⟩
theorem PS3.put {w0 W:World} {pe:Nat} {x:ExprD} {ps:Int × Int × Int} (k:PS3 w0 pe x ps W) {i:Nat} (hi:i < 3) (v:Int):PS3 w0 pe x (put3 i v ps) (W.setCell ⟨w0.heap.size+1,i,none⟩ (.int .i64 v)):=by
 refine ⟨?_, ?_, ?_,k.bel.setCell (by show _≤w0.heap.size+1;omega) _⟩
 · rw [heap_setCell_other _ _ _ _ (by simp)];exact k.be
 · have h:=heap_setCell_same W (w0.heap.size+1) i _ _ (.int .i64 v) k.bp;rw [h];have hc:i=0∨i=1∨i=2:=by omega
   rcases hc with rfl | rfl | rfl <;> rfl
 · rw [heap_setCell_other _ _ _ _ (by simp)];exact k.ba
theorem PS3.start (w:World) (pe:Nat) (x:ExprD):PS3 w pe x (0,0,0) ((((w.alloc (Obj.cells #[Value.pointer (some ⟨pe,0,none⟩)] 77)).alloc (Obj.cells #[Value.int .i64 0,Value.int .i64 0,Value.int .i64 0] 145)).alloc (Obj.cells #[Value.int .i64 x.a,Value.int .i64 x.b,Value.int .i64 x.c] 146)).drew):=by
 have s1: (w.alloc (Obj.cells #[Value.pointer (some ⟨pe,0,none⟩)] 77)).heap.size=w.heap.size+1:=by simp
 generalize hA:w.alloc (Obj.cells #[Value.pointer (some ⟨pe,0,none⟩)] 77)=A at s1 ⊢;have a1:A.heap[w.heap.size]? =some (.cells #[Value.pointer (some ⟨pe,0,none⟩)] 77 (0,0)):=by rw [←hA];exact heap_alloc_new w _
 have ba:Below w.heap.size w A:=by rw [←hA];exact ball _
 have s2: (A.alloc (Obj.cells #[Value.int .i64 0,Value.int .i64 0,Value.int .i64 0] 145)).heap.size=w.heap.size+2:=by simp [s1]
 generalize hB:A.alloc (Obj.cells #[Value.int .i64 0,Value.int .i64 0,Value.int .i64 0] 145)=B at s2 ⊢;have b1:B.heap[w.heap.size+1]? =some (.cells #[Value.int .i64 0,Value.int .i64 0,Value.int .i64 0] 145 (0,0)):=by rw [←hB,←s1];exact heap_alloc_new A _
 have bb:Below A.heap.size A B:=by rw [←hB];exact ball _
 have c1: (B.alloc (Obj.cells #[Value.int .i64 x.a,Value.int .i64 x.b,Value.int .i64 x.c] 146)).heap[w.heap.size+2]? =some (.cells #[Value.int .i64 x.a,Value.int .i64 x.b,Value.int .i64 x.c] 146 (0,0)):=by rw [←s2];exact heap_alloc_new B _
 have bc:Below B.heap.size B (B.alloc (Obj.cells #[Value.int .i64 x.a,Value.int .i64 x.b,Value.int .i64 x.c] 146)):=ball _;have a2:=(bb.block _ (by omega)).trans a1;have bd:Below w.heap.size w (B.alloc (Obj.cells #[Value.int .i64 x.a,Value.int .i64 x.b,Value.int .i64 x.c] 146)):=ba.trans ((bb.mono (by omega)).trans (bc.mono (by omega)));exact ⟨(bc.block _ (by omega)).trans a2,(bc.block _ (by omega)).trans b1,c1,bd.drew⟩
def part3 (i:Nat) (x:ExprD):Int:=if i=0 then x.a else if i=1 then x.b else x.c
set_option maxHeartbeats 4000000 in
set_option maxRecDepth 100000 in
theorem partC {B pe:Nat} {h:MH} {hs:SH} {ao:Option Addr} {ac:Nat} {E:EnvD} {ev:Int→Int × Int} {N:Nat} {x:ExprD} {ps:Int × Int × Int} {w0:World} (i:Nat) (W:World) (hi:i < 3) (hk:Ek B w0 pe h hs ao ac E) (he:EvC B pe h hs ao ac E ev N) (hps:PS3 w0 pe x ps W) (hq0:0≤part3 i x) (hqN:part3 i x < N):
 Calls Tryz.prog 61 #[.int .i64 i,.pointer (some ⟨w0.heap.size,0,none⟩),.pointer (some ⟨w0.heap.size+2,0,none⟩),.pointer (some ⟨w0.heap.size+1,0,none⟩)] W fun e W'=>e= .returned (.int .i64 (ev (part3 i x)).2)∧PS3 w0 pe x (put3 i (ev (part3 i x)).1 ps) W':=by
 have HPS:=Lib.hid hps;have HP1:=Lib.hid (hps.below (Below.refl _ W).drew);have HEC:=Lib.hid (he (part3 i x) W.drew hq0 hqN (hk.below HP1.out.bel));obtain ⟨⟨v,er⟩,hev⟩:∃q,ev (part3 i x)=q:=⟨_,rfl⟩;rw [hev] at HEC;simp only at HEC;rw [hev];have hi0: (0:Int)≤i:=by omega
 have hi3: (i:Int) < 3:=by omega
 have c0:W.cell? ⟨w0.heap.size,0,none⟩=some (.pointer (some ⟨pe,0,none⟩)):=(cell_of_row _ _ _ _ _ _ hps.be).trans rfl;have c1:W.cell? ⟨w0.heap.size+2,i,none⟩=some (.int .i64 (part3 i x)):=(cell_of_row _ _ _ _ _ _ hps.ba).trans (by
  have hc:i=0∨i=1∨i=2:=by omega
  rcases hc with rfl | rfl | rfl <;> rfl)
 have HIV:Hid (i < 3):=Lib.hid hi;generalize part3 i x=q at*;clear hk he hps hev;go_enter Tryz.func61,Tryz.ntmps61;go_wp2_with fail
 go_region_law (
  go_simp;go_at_call 39;refine HEC.out.mono ?_;rintro e W1 ⟨rfl,hb1⟩;have HP2:=Lib.hid (HP1.out.below hb1);have d1:∃u,W1.cell? ⟨w0.heap.size+1,i,none⟩=some u:=⟨_,(cell_of_row _ _ _ _ _ _ HP2.out.bp).trans (Array.getElem?_eq_getElem (by simpa using HIV.out))⟩;obtain ⟨u,d1⟩:=d1;have d2:W1.frozen? ⟨w0.heap.size+1,i,none⟩=false:=frozen_of_row _ _ _ _ _ HP2.out.bp;clear hb1)
 all_goals (
  have HP3:=Lib.hid (HP2.out.put HIV.out v);go_wp2_with fail;go_ret;exact ⟨rfl,HP3.out⟩)
end Go.Proofs.YthfldokfnjpkmaaGreatDoor
namespace Go.Proofs.YthfldokfnjpkmaaGreatDoor
open Go.ChangeShapes Go.WideShapes Go.ChangeAt Go.RowKit
theorem PS3.c0 {w0 W:World} {pe:Nat} {x:ExprD} {ps:Int × Int × Int} (k:PS3 w0 pe x ps W):W.cell? ⟨w0.heap.size+1,0,none⟩=some (.int .i64 ps.1):=(cell_of_row _ _ _ _ _ _ k.bp).trans rfl
theorem PS3.c1 {w0 W:World} {pe:Nat} {x:ExprD} {ps:Int × Int × Int} (k:PS3 w0 pe x ps W):W.cell? ⟨w0.heap.size+1,1,none⟩=some (.int .i64 ps.2.1):=(cell_of_row _ _ _ _ _ _ k.bp).trans rfl
theorem PS3.c2 {w0 W:World} {pe:Nat} {x:ExprD} {ps:Int × Int × Int} (k:PS3 w0 pe x ps W):W.cell? ⟨w0.heap.size+1,2,none⟩=some (.int .i64 ps.2.2):=(cell_of_row _ _ _ _ _ _ k.bp).trans rfl
theorem PS3.ce {w0 W:World} {pe:Nat} {x:ExprD} {ps:Int × Int × Int} (k:PS3 w0 pe x ps W):W.cell? ⟨w0.heap.size,0,none⟩=some (.pointer (some ⟨pe,0,none⟩)):=(cell_of_row _ _ _ _ _ _ k.be).trans rfl
def partV (w0:World):Value:= .func (.func 61) #[] #[.pointer (some ⟨w0.heap.size,0,none⟩),.pointer (some ⟨w0.heap.size+2,0,none⟩),.pointer (some ⟨w0.heap.size+1,0,none⟩)]
set_option maxHeartbeats 4000000 in
set_option maxRecDepth 100000 in
theorem chosenC {B pe:Nat} {h:MH} {hs:SH} {ao:Option Addr} {ac:Nat} {E:EnvD} {ev:Int→Int × Int} {N:Nat} {x:ExprD} {ps:Int × Int × Int} {w0:World} (W:World) (hk:Ek B w0 pe h hs ao ac E) (he:EvC B pe h hs ao ac E ev N) (hps:PS3 w0 pe x ps W) (hop:22≤x.op∧x.op≤24) (ha:0≤x.a∧x.a < N) (hb:0≤x.b∧x.b < N) (hc:x.op=24→0≤x.c∧x.c < N):
 Calls Tryz.prog 65 #[.int .i64 x.op,partV w0,.pointer (some ⟨w0.heap.size+1,0,none⟩)] W fun e W'=>e= .returned (.tuple #[.int .i64 (chosenB ev x).1,.int .i64 (chosenB ev x).2])∧Below w0.heap.size w0 W':=by
 have HP0:=Lib.hid (partC 0 W (by omega) hk he hps ha.1 ha.2);have HPB:=Lib.hid (fun (ps1:Int × Int × Int) (W1:World) (h1:PS3 w0 pe x ps1 W1)=>partC 1 W1 (by omega) hk he h1 hb.1 hb.2);have HPC:Hid (x.op=24→∀ (ps1:Int × Int × Int) (W1:World),PS3 w0 pe x ps1 W1→Calls Tryz.prog 61 #[.int .i64 (2:Nat),.pointer (some ⟨w0.heap.size,0,none⟩),.pointer (some ⟨w0.heap.size+2,0,none⟩),.pointer (some ⟨w0.heap.size+1,0,none⟩)] W1 fun e W'=>e= .returned (.int .i64 (ev (part3 2 x)).2)∧PS3 w0 pe x (put3 2 (ev (part3 2 x)).1 ps1) W'):=Lib.hid fun e24 ps1 W1 h1=>partC 2 W1 (by omega) hk he h1 (hc e24).1 (hc e24).2
 rw [show part3 0 x=x.a from rfl] at HP0;rw [show part3 1 x=x.b from rfl] at HPB;rw [show part3 2 x=x.c from rfl] at HPC;clear hk he hps hc;obtain ⟨⟨v,er⟩,hev⟩:∃q,ev x.a=q:=⟨_,rfl⟩;obtain ⟨⟨v1,er1⟩,hev1⟩:∃q,ev x.b=q:=⟨_,rfl⟩;obtain ⟨⟨v2,er2⟩,hev2⟩:∃q,ev x.c=q:=⟨_,rfl⟩;rw [hev] at HP0;rw [hev1] at HPB;rw [hev2] at HPC;simp only at HP0 HPB HPC;have HV:Hid (chosenB ev x=if er≠0 then (0,er) else if x.op=22∧v=0 then (0,0) else if x.op=23∧v≠0 then (1,0) else if x.op=24∧v=0 then (if er2≠0 then (0,er2) else (v2,0)) else if er1≠0 then (0,er1) else if x.op=24 then (v1,0) else (truthI (decide (v1≠0)),0)):=Lib.hid (by unfold chosenB;rw [hev,hev1,hev2]);clear hev hev1 hev2;unfold partV;generalize chosenB ev x=R at HV ⊢;generalize x.op=op at HV HPC hop ⊢;have hcs:op=22∨op=23∨op=24:=by omega
 clear hop;rcases hcs with rfl | rfl | rfl
 · go_enter Tryz.func65,Tryz.ntmps65;go_wp2_with fail;refine HP0.out.mono ?_;rintro e W1 ⟨rfl,hp1⟩;have HP1:=Lib.hid hp1;clear hp1;by_cases h0:er=0
   · have hd0: (er != 0)=false:=by rw [bne_eq_false_iff_eq];exact h0
     subst h0;have c0:W1.cell? ⟨w0.heap.size+1,0,none⟩=some (.int .i64 v):=HP1.out.c0;by_cases hv:v=0
     · have hb1: (v == 0)=true:=by rw [beq_iff_eq];exact hv
       have hb2: (v != 0)=false:=by rw [bne_eq_false_iff_eq];exact hv
       have HR:Hid (R= (0,0)):=Lib.hid (by rw [HV.out];simp [hv]);clear hv;go_wp2_with fail;go_ret2;exact ⟨ret2 (by rw [HR.out]) (by rw [HR.out]),HP1.out.bel⟩
     · have hb1: (v == 0)=false:=by rw [beq_eq_false_iff_ne];exact hv
       have hb2: (v != 0)=true:=by rw [bne_iff_ne];exact hv
       go_wp2_with fail;refine (HPB.out _ W1 HP1.out).mono ?_;rintro e W2 ⟨rfl,hp2⟩;have HP2:=Lib.hid hp2;clear hp2 c0;by_cases h1:er1=0
       · have hd1: (er1 != 0)=false:=by rw [bne_eq_false_iff_eq];exact h1
         subst h1;have c1:W2.cell? ⟨w0.heap.size+1,1,none⟩=some (.int .i64 v1):=HP2.out.c1;by_cases h2:v1=0
         · have hd2: (v1 != 0)=false:=by rw [bne_eq_false_iff_eq];exact h2
           have HR:Hid (R= (0,0)):=Lib.hid (by rw [HV.out];simp [hv,h2,truthI]);clear hv h2;go_wp2_with fail;refine (truthC _ _).mono ?_;rintro e W3 ⟨rfl,rfl⟩;go_wp2_with fail;go_ret2;exact ⟨ret2 (by rw [HR.out];rfl) (by rw [HR.out]),HP2.out.bel⟩
         · have hd2: (v1 != 0)=true:=by rw [bne_iff_ne];exact h2
           have HR:Hid (R= (1,0)):=Lib.hid (by rw [HV.out];simp [hv,h2,truthI]);clear hv h2;go_wp2_with fail;refine (truthC _ _).mono ?_;rintro e W3 ⟨rfl,rfl⟩;go_wp2_with fail;go_ret2;exact ⟨ret2 (by rw [HR.out];rfl) (by rw [HR.out]),HP2.out.bel⟩
       · have hd1: (er1 != 0)=true:=by rw [bne_iff_ne];exact h1
         have HR:Hid (R= (0,er1)):=Lib.hid (by rw [HV.out];simp [hv,h1]);clear hv;go_wp2_with fail;go_ret2;exact ⟨ret2 (by rw [HR.out]) (by rw [HR.out]),HP2.out.bel⟩
   · have hd0: (er != 0)=true:=by rw [bne_iff_ne];exact h0
     have HR:Hid (R= (0,er)):=Lib.hid (by rw [HV.out,if_pos h0]);go_wp2_with fail;go_ret2;exact ⟨ret2 (by rw [HR.out]) (by rw [HR.out]),HP1.out.bel⟩
 · go_enter Tryz.func65,Tryz.ntmps65;go_wp2_with fail;refine HP0.out.mono ?_;rintro e W1 ⟨rfl,hp1⟩;have HP1:=Lib.hid hp1;clear hp1;by_cases h0:er=0
   · have hd0: (er != 0)=false:=by rw [bne_eq_false_iff_eq];exact h0
     subst h0;have c0:W1.cell? ⟨w0.heap.size+1,0,none⟩=some (.int .i64 v):=HP1.out.c0;by_cases hv:v=0
     · have hb1: (v == 0)=true:=by rw [beq_iff_eq];exact hv
       have hb2: (v != 0)=false:=by rw [bne_eq_false_iff_eq];exact hv
       go_wp2_with fail;refine (HPB.out _ W1 HP1.out).mono ?_;rintro e W2 ⟨rfl,hp2⟩;have HP2:=Lib.hid hp2;clear hp2 c0;by_cases h1:er1=0
       · have hd1: (er1 != 0)=false:=by rw [bne_eq_false_iff_eq];exact h1
         subst h1;have c1:W2.cell? ⟨w0.heap.size+1,1,none⟩=some (.int .i64 v1):=HP2.out.c1;by_cases h2:v1=0
         · have hd2: (v1 != 0)=false:=by rw [bne_eq_false_iff_eq];exact h2
           have HR:Hid (R= (0,0)):=Lib.hid (by rw [HV.out];simp [hv,h2,truthI]);clear hv h2;go_wp2_with fail;refine (truthC _ _).mono ?_;rintro e W3 ⟨rfl,rfl⟩;go_wp2_with fail;go_ret2;exact ⟨ret2 (by rw [HR.out];rfl) (by rw [HR.out]),HP2.out.bel⟩
         · have hd2: (v1 != 0)=true:=by rw [bne_iff_ne];exact h2
           have HR:Hid (R= (1,0)):=Lib.hid (by rw [HV.out];simp [hv,h2,truthI]);clear hv h2;go_wp2_with fail;refine (truthC _ _).mono ?_;rintro e W3 ⟨rfl,rfl⟩;go_wp2_with fail;go_ret2;exact ⟨ret2 (by rw [HR.out];rfl) (by rw [HR.out]),HP2.out.bel⟩
       · have hd1: (er1 != 0)=true:=by rw [bne_iff_ne];exact h1
         have HR:Hid (R= (0,er1)):=Lib.hid (by rw [HV.out];simp [hv,h1]);clear hv;go_wp2_with fail;go_ret2;exact ⟨ret2 (by rw [HR.out]) (by rw [HR.out]),HP2.out.bel⟩
     · have hb1: (v == 0)=false:=by rw [beq_eq_false_iff_ne];exact hv
       have hb2: (v != 0)=true:=by rw [bne_iff_ne];exact hv
       have HR:Hid (R= (1,0)):=Lib.hid (by rw [HV.out];simp [hv]);clear hv;go_wp2_with fail;go_ret2;exact ⟨ret2 (by rw [HR.out]) (by rw [HR.out]),HP1.out.bel⟩
   · have hd0: (er != 0)=true:=by rw [bne_iff_ne];exact h0
     have HR:Hid (R= (0,er)):=Lib.hid (by rw [HV.out,if_pos h0]);go_wp2_with fail;go_ret2;exact ⟨ret2 (by rw [HR.out]) (by rw [HR.out]),HP1.out.bel⟩
 · go_enter Tryz.func65,Tryz.ntmps65;go_wp2_with fail;refine HP0.out.mono ?_;rintro e W1 ⟨rfl,hp1⟩;have HP1:=Lib.hid hp1;clear hp1;by_cases h0:er=0
   · have hd0: (er != 0)=false:=by rw [bne_eq_false_iff_eq];exact h0
     subst h0;have c0:W1.cell? ⟨w0.heap.size+1,0,none⟩=some (.int .i64 v):=HP1.out.c0;by_cases hv:v=0
     · have hb1: (v == 0)=true:=by rw [beq_iff_eq];exact hv
       have hb2: (v != 0)=false:=by rw [bne_eq_false_iff_eq];exact hv
       go_wp2_with fail;refine (HPC.out (by simp) _ W1 HP1.out).mono ?_;rintro e W2 ⟨rfl,hp2⟩;have HP2:=Lib.hid hp2;clear hp2 c0;by_cases h1:er2=0
       · have hd1: (er2 != 0)=false:=by rw [bne_eq_false_iff_eq];exact h1
         subst h1;have c1:W2.cell? ⟨w0.heap.size+1,2,none⟩=some (.int .i64 v2):=HP2.out.c2;have HR:Hid (R= (v2,0)):=Lib.hid (by rw [HV.out];simp [hv]);clear hv;go_wp2_with fail;go_ret2;exact ⟨ret2 (by rw [HR.out]) (by rw [HR.out]),HP2.out.bel⟩
       · have hd1: (er2 != 0)=true:=by rw [bne_iff_ne];exact h1
         have HR:Hid (R= (0,er2)):=Lib.hid (by rw [HV.out];simp [hv,h1]);clear hv;go_wp2_with fail;go_ret2;exact ⟨ret2 (by rw [HR.out]) (by rw [HR.out]),HP2.out.bel⟩
     · have hb1: (v == 0)=false:=by rw [beq_eq_false_iff_ne];exact hv
       have hb2: (v != 0)=true:=by rw [bne_iff_ne];exact hv
       go_wp2_with fail;refine (HPB.out _ W1 HP1.out).mono ?_;rintro e W2 ⟨rfl,hp2⟩;have HP2:=Lib.hid hp2;clear hp2 c0;by_cases h1:er1=0
       · have hd1: (er1 != 0)=false:=by rw [bne_eq_false_iff_eq];exact h1
         subst h1;have c1:W2.cell? ⟨w0.heap.size+1,1,none⟩=some (.int .i64 v1):=HP2.out.c1;have HR:Hid (R= (v1,0)):=Lib.hid (by rw [HV.out];simp [hv]);clear hv;go_wp2_with fail;go_ret2;exact ⟨ret2 (by rw [HR.out]) (by rw [HR.out]),HP2.out.bel⟩
       · have hd1: (er1 != 0)=true:=by rw [bne_iff_ne];exact h1
         have HR:Hid (R= (0,er1)):=Lib.hid (by rw [HV.out];simp [hv,h1]);clear hv;go_wp2_with fail;go_ret2;exact ⟨ret2 (by rw [HR.out]) (by rw [HR.out]),HP2.out.bel⟩
   · have hd0: (er != 0)=true:=by rw [bne_iff_ne];exact h0
     have HR:Hid (R= (0,er)):=Lib.hid (by rw [HV.out,if_pos h0]);go_wp2_with fail;go_ret2;exact ⟨ret2 (by rw [HR.out]) (by rw [HR.out]),HP1.out.bel⟩
end Go.Proofs.YthfldokfnjpkmaaGreatDoor
namespace Go.Proofs.YthfldokfnjpkmaaGreatDoor
open Go.ChangeShapes Go.WideShapes Go.ChangeAt Go.RowKit
theorem evalB_num {E:EnvD} {ev:Int→Int × Int} {x:ExprD} (h:x.op=1):evalB E ev x= (x.n,0):=by
 unfold evalB;rw [if_pos (by omega)]
theorem evalB_var {E:EnvD} {ev:Int→Int × Int} {x:ExprD} (h:x.op=2):evalB E ev x=if (rslotB E ev x).2.2≠0 then (0,(rslotB E ev x).2.2) else (slotVal E (rslotB E ev x).1 (rslotB E ev x).2.1,0):=by
 unfold evalB;rw [if_neg (by omega),if_pos (by omega)]
theorem evalB_one {E:EnvD} {ev:Int→Int × Int} {x:ExprD} (h:3≤x.op∧x.op≤5):evalB E ev x=if (ev x.a).2≠0 then (0,(ev x.a).2) else val.one x.op (ev x.a).1:=by
 unfold evalB;rw [if_neg (by omega),if_neg (by omega),if_pos (by omega)]
theorem evalB_cho {E:EnvD} {ev:Int→Int × Int} {x:ExprD} (h:22≤x.op∧x.op≤24):evalB E ev x=chosenB ev x:=by
 unfold evalB;rw [if_neg (by omega),if_neg (by omega),if_neg (by omega),if_pos (by omega)]
theorem evalB_roo {E:EnvD} {ev:Int→Int × Int} {x:ExprD} (h:25≤x.op∧x.op≤29):evalB E ev x=rroomB E ev x:=by
 unfold evalB;rw [if_neg (by omega),if_neg (by omega),if_neg (by omega),if_neg (by omega),if_pos (by omega)]
theorem evalB_pol {E:EnvD} {ev:Int→Int × Int} {x:ExprD} (h:x.op=30):evalB E ev x=rpollB E ev x:=by
 unfold evalB;rw [if_neg (by omega),if_neg (by omega),if_neg (by omega),if_neg (by omega),if_neg (by omega),if_pos (by omega)]
theorem evalB_kno {E:EnvD} {ev:Int→Int × Int} {x:ExprD} (h:31≤x.op∧x.op≤35):evalB E ev x= (knownB E x.op,0):=by
 unfold evalB;rw [if_neg (by omega),if_neg (by omega),if_neg (by omega),if_neg (by omega),if_neg (by omega),if_neg (by omega),if_pos (by omega)]
theorem evalB_ask {E:EnvD} {ev:Int→Int × Int} {x:ExprD} (h:36≤x.op∧x.op≤38):evalB E ev x=if (ev x.a).2≠0 then (0,(ev x.a).2) else askedB E x (ev x.a).1:=by
 unfold evalB;rw [if_neg (by omega),if_neg (by omega),if_neg (by omega),if_neg (by omega),if_neg (by omega),if_neg (by omega),if_neg (by omega),if_pos (by omega)]
theorem evalB_run {E:EnvD} {ev:Int→Int × Int} {x:ExprD} (h:x.op=39):evalB E ev x= (0,42):=by
 unfold evalB;rw [if_neg (by omega),if_neg (by omega),if_neg (by omega),if_neg (by omega),if_neg (by omega),if_neg (by omega),if_neg (by omega),if_neg (by omega),if_pos (by omega)]
theorem evalB_two {E:EnvD} {ev:Int→Int × Int} {x:ExprD} (h:6≤x.op∧x.op≤21):evalB E ev x=if (ev x.a).2≠0 then (0,(ev x.a).2) else if (ev x.b).2≠0 then (0,(ev x.b).2) else val.two x.op (ev x.a).1 (ev x.b).1:=by
 unfold evalB;rw [if_neg (by omega),if_neg (by omega),if_neg (by omega),if_neg (by omega),if_neg (by omega),if_neg (by omega),if_neg (by omega),if_neg (by omega),if_neg (by omega)]
theorem dims_reach {ev:Int→Int × Int}:∀ (l:List DimD) (a b:Int),(∀d ∈ l,1≤d.len∧d.len≤128∧0≤d.stride∧d.stride≤128)→0≤a→a+1≤b→ (dimsF ev l a).2=0→0≤ (dimsF ev l a).1∧ (dimsF ev l a).1+1≤reachR l b
 | [],a,b,_,h0,h1,_=>⟨h0,h1⟩
 | d :: r,a,b,hd,h0,h1,h2=>by
   have hd0:=hd d (List.mem_cons_self ..);have hr:reachR (d :: r) b=reachR r (b+ (d.len - 1)*d.stride):=(if_neg (by omega): (if d.len < 1∨1073741825 < d.len∨d.stride < 0∨1073741824 < d.stride then 0 else reachR r (b+ (d.len - 1)*d.stride))=_);rw [hr];unfold dimsF at h2 ⊢;split at h2
   · rename_i hh
     exact absurd h2 hh
   · rename_i hh
     rw [if_neg hh];split at h2
     · simp at h2
     · rename_i hj
       rw [if_neg hj];have hm0:0≤ (ev d.i).1*d.stride:=Int.mul_nonneg (by omega) (by omega);have hm1: (ev d.i).1*d.stride≤ (d.len - 1)*d.stride:=Int.mul_le_mul_of_nonneg_right (by omega) (by omega);exact dims_reach r _ _ (fun q hq=>hd q (List.mem_cons_of_mem _ hq)) (by omega) (by omega) h2
theorem pid_range {E:EnvD} {ev:Int→Int × Int} {v:VarD} (hok:Ok E) (h: (pidB E ev v).2=0): (pidB E ev v).1 < E.s.procs.length:=by
 have h0:=hok.pid;unfold pidB at h ⊢;split
 · rename_i h1
   rw [if_pos h1] at h;split
   · rename_i h3
     rw [if_pos h3] at h;simp at h
   · exact h0.2
 · rename_i h1
   rw [if_neg h1] at h;split
   · rename_i h2
     rw [if_pos h2] at h;split
     · rename_i h3
       rw [if_pos h3] at h;exact absurd h h3
     · rename_i h3
       rw [if_neg h3] at h;split
       · rename_i h4
         rw [if_pos h4] at h;simp at h
       · rename_i h4
         show (ev v.who).1 < _;omega
   · show (-1:Int) < _;omega
theorem slot_range {E:EnvD} {ev:Int→Int × Int} {x:ExprD} (hok:Ok E) (hv:VarF x.v) (h: (rslotB E ev x).2.2=0): (rslotB E ev x).1 < E.s.procs.length∧∃k:Nat,(rslotB E ev x).2.1=k∧k < (slotsL E (rslotB E ev x).1).length:=by
 unfold rslotB at h ⊢;split at h
 · simp at h
 · rename_i h1
   rw [if_neg h1];split at h
   · rename_i h2
     exact absurd h h2
   · rename_i h2
     rw [if_neg h2];split at h
     · simp at h
     · rename_i h3
       rw [if_neg h3];split at h
       · rename_i h4
         exact absurd h h4
       · rename_i h4
         rw [if_neg h4];have h5:=dims_reach (ev:=ev) x.v.dims x.v.slot (x.v.slot+1) hv.d hv.t0 (Int.le_refl _) (by simpa using h4);have h6:reachL x.v=reachR x.v.dims (x.v.slot+1):=by
          unfold reachL;have:=hv.t0;have:=hv.t1;have:=hv.n;rw [if_neg (by omega)]
         refine ⟨pid_range hok (by simpa using h2),((dimsF ev x.v.dims x.v.slot).1).toNat, ?_, ?_⟩
         · show (dimsF ev x.v.dims x.v.slot).1=_;omega
         · show _ < (slotsL E (pidB E ev x.v).1).length;omega
end Go.Proofs.YthfldokfnjpkmaaGreatDoor
