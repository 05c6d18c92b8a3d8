/- What a state tells without being asked for anything. -/
import Derived.Test.YthfldokfnjpkmaaGreatDoorM14
import Derived.BigQuiet
set_option linter.unusedVariables false
set_option linter.unusedSimpArgs false
namespace Go.Proofs.YthfldokfnjpkmaaGreatDoor
open Go.ChangeShapes Go.WideShapes Go.ChangeAt Go.RowKit
theorem Ek.leB {B pe:Nat} {w W:World} {h:MH} {hs:SH} {ao:Option Addr} {ac:Nat} {E:EnvD} (k:Ek B w pe h hs ao ac E) (hb:Below w.heap.size w W):B≤W.heap.size:=Nat.le_trans k.leW hb.size
set_option maxHeartbeats 2000000 in
set_option maxRecDepth 100000 in
theorem knownC {B pe:Nat} {h:MH} {hs:SH} {ao:Option Addr} {ac:Nat} {E:EnvD} (op:Int) (w:World) (hk:Ek B w pe h hs ao ac E) (hok:Ok E) (ho:31≤op∧op≤35):
 Calls Tryz.prog 68 #[.pointer (some ⟨pe,0,none⟩),.int .i64 op] w fun e w'=>e= .returned (.int .i64 (knownB E op))∧Below w.heap.size w w':=by
 have HK:=Lib.hid hk;have HO:=Lib.hid hok;have c9:=hk.sk.c2;have c10:=hk.sk.c3;have c13:=hk.c13;have c14:=hk.c14;have hpl:=hk.sk.sd.procs.1;clear hk hok;have hcs:op=31∨op=32∨op=33∨op=34∨op=35:=by omega
 clear ho;rcases hcs with rfl | rfl | rfl | rfl | rfl
 · go_enter Tryz.func68,Tryz.ntmps68;go_wp2_with fail;go_ret;exact ⟨rfl,Below.refl _ _⟩
 · go_enter Tryz.func68,Tryz.ntmps68;go_wp2_with fail;go_ret;exact ⟨rfl,Below.refl _ _⟩
 · go_enter Tryz.func68,Tryz.ntmps68;go_wp2_with fail;go_ret;exact ⟨rfl,Below.refl _ _⟩
 · have HV:Hid (knownB E 34=truthI (E.s.procs.all (fun p=> !inProgress E p))):=Lib.hid rfl;go_enter Tryz.func68,Tryz.ntmps68;go_wp2_with fail
   go_loopw [37] (fun iv W=>∃i:Nat,iv= .int .i64 i∧i≤E.s.procs.length∧Hid (∀j (hj:j < E.s.procs.length),j < i→ (!inProgress E E.s.procs[j])=true)∧Hid (Below w.heap.size w W)) (fun iv _=>E.s.procs.length - (intOf iv).toNat)
   case atStart=>exact ⟨0,rfl,by omega,Lib.hid fun j _ h=>by omega,Lib.hid (Below.refl _ _)⟩
   case round=>
    obtain ⟨i,rfl,hi,HJ,HB⟩:=hrel;have hi0: (0:Int)≤i:=by omega
    clear c9 c10 c13 c14;by_cases hlt:i < E.s.procs.length
    · have hlti: (i:Int) < E.s.procs.length:=by omega
      obtain ⟨p,hp⟩:∃x,E.s.procs[i]=x:=⟨_,rfl⟩;have hpq:E.s.procs[i]? =some p:=by rw [List.getElem?_eq_getElem hlt,hp]
      obtain ⟨t,ht,ht0,ht1,hl0,hl1,-⟩:=may_proc HO.out hpq;obtain ⟨kt,hkt⟩:∃k:Nat,p.type=k:=⟨p.type.toNat,by omega⟩;obtain ⟨kl,hkl⟩:∃k:Nat,p.loc=k:=⟨p.loc.toNat,by omega⟩;have hktl: (kt:Int) < E.m.procs.length:=by omega
      have hkll: (kl:Int) < t.locs.length:=by omega
      have hkt0: (0:Int)≤kt:=by omega
      have hkl0: (0:Int)≤kl:=by omega
      obtain ⟨l,hl⟩:∃l,t.locs[kl]? =some l:=⟨_,List.getElem?_eq_getElem (by omega)⟩;have HPR:Hid (inProgress E p=l.progress):=Lib.hid (by unfold inProgress locOf;rw [ht,hkl,Int.toNat_natCast];show ((t.locs[kl]?).map (·.progress)).getD false=_;rw [hl];rfl);rw [hkt,Int.toNat_natCast] at ht;have HKW:=HK.out.below HB.out;have c4:=HKW.ck.c4;have c9:=HKW.sk.c2;have hml:=HKW.ck.md.procs.1;obtain ⟨g1,off1,ho1,hg1,hpa⟩:=HKW.sk.sd.procs.get hpq;obtain ⟨g2,off2,ho2,hg2,hta⟩:=HKW.ck.md.procs.get ht;obtain ⟨lo,lc,r4,hlr⟩:=hta.locs;have hll:=hlr.1;obtain ⟨g3,off3,ho3,hg3,hla⟩:=hlr.get hl;have r6:=hla.c6;have q0:=hpa.c0;have q1:=hpa.c1;subst ho3;rw [ho1] at c9;rw [ho2] at c4;rw [hkt] at q0;rw [hkl] at q1;have HBAD:Hid (l.progress=true→knownB E 34=0):=Lib.hid fun e=>by rw [HV.out,all_bad hlt (by rw [hp,HPR.out,e];rfl)];rfl
      have HGO:Hid (l.progress=false→∀j (hj:j < E.s.procs.length),j < i+1→ (!inProgress E E.s.procs[j])=true):=Lib.hid fun e j hj hjk=>by
       by_cases ej:j=i
       · subst ej;rw [hp,HPR.out,e];rfl
       · exact HJ.out j hj (by omega)
      obtain ⟨lp,hlp⟩:∃x,l.progress=x:=⟨_,rfl⟩;rw [hlp] at r6;have HLP:=Lib.hid hlp;clear HKW hpa hta hla hlr ho1 ho2 hp hpq ht hl hlp hkt hkl hl0 hl1 ht0 ht1;cases lp
      · have HZ:=Lib.hid (HGO.out HLP.out);go_wp2_with fail;go_quiet (fail);have HB2:Hid (Below w.heap.size w (wr.drewN nq)):=Lib.hid (bdrew HB.out nq);generalize wr.drewN nq=W2 at HB2 ⊢;clear c4 c9 r4 r6 q0 q1;go_wp2_with fail;go_roundw;case rel=>exact ⟨i+1,by go_num,by omega,HZ,HB2⟩
        case measure=>simp [intOf];omega
      · have HZ:=Lib.hid (HBAD.out HLP.out);go_wp2_with fail;go_quiet (fail);have HB2:Hid (Below w.heap.size w (wr.drewN nq)):=Lib.hid (bdrew HB.out nq);generalize wr.drewN nq=W2 at HB2 ⊢;clear c4 c9 r4 r6 q0 q1;go_wp2_with fail;go_ret;exact ⟨retI HZ.out.symm,HB2.out⟩
    · have hlti:¬ (i:Int) < E.s.procs.length:=by omega
      have HZ:Hid (knownB E 34=1):=Lib.hid (by rw [HV.out,all_of fun j hj=>HJ.out j hj (by omega)];rfl);go_wp2_with fail;go_ret;exact ⟨retI HZ.out.symm,HB.out⟩
 · go_enter Tryz.func68,Tryz.ntmps68;go_wp2_with fail;refine (truthC E.timeout w).mono ?_;rintro e W1 ⟨rfl,rfl⟩;go_wp2_with fail;go_ret;exact ⟨rfl,Below.refl _ _⟩
end Go.Proofs.YthfldokfnjpkmaaGreatDoor
namespace Go.Proofs.YthfldokfnjpkmaaGreatDoor
open Go.ChangeShapes Go.WideShapes Go.ChangeAt Go.RowKit
set_option maxRecDepth 100000 in
theorem chanC {B pe:Nat} {h:MH} {hs:SH} {ao:Option Addr} {ac:Nat} {E:EnvD} {ev:Int→Int × Int} {N:Nat} (x:Int) (w:World) (hk:Ek B w pe h hs ao ac E) (he:EvC B pe h hs ao ac E ev N) (hx0:0≤x) (hx:x < N):
 Calls Tryz.prog 115 #[.pointer (some ⟨pe,0,none⟩),.int .i64 x] w fun e w'=>e= .returned (.tuple #[.int .i64 (rchanB E ev x).1,.int .i64 (rchanB E ev x).2])∧Below w.heap.size w w':=by
 have HK:=Lib.hid hk;have HE:=Lib.hid (he x w hx0 hx hk);clear hk he;obtain ⟨⟨v,er⟩,hev⟩:∃q,ev x=q:=⟨_,rfl⟩;rw [hev] at HE;simp only at HE;go_enter Tryz.func115,Tryz.ntmps115;go_wp2_with fail;refine HE.out.mono ?_;rintro e W1 ⟨rfl,hb1⟩;have HB1:=Lib.hid hb1;have HK1:=Lib.hid (HK.out.below hb1);have c8:=HK1.out.sk.c1;have hcl:=HK1.out.sk.sd.chans.1;clear hb1;by_cases h0:er=0
 · have hd0: (er != 0)=false:=by rw [bne_eq_false_iff_eq];exact h0
   subst h0;by_cases h1:v < 1
   · have hd1:decide (v < 1)=true:=decide_eq_true h1;have HV:Hid (rchanB E ev x= (0,49)):=Lib.hid (by unfold rchanB;rw [hev];simp [h1]);go_wp2_with fail;go_ret2;exact ⟨ret2 (by rw [HV.out]) (by rw [HV.out]),HB1.out⟩
   · have hd1:decide (v < 1)=false:=decide_eq_false h1;by_cases h2: (E.s.chans.length:Int) < v
     · have hd2:decide ((E.s.chans.length:Int) < v)=true:=decide_eq_true h2;have HV:Hid (rchanB E ev x= (0,49)):=Lib.hid (by unfold rchanB;rw [hev];simp [h2]);go_wp2_with fail;go_ret2;exact ⟨ret2 (by rw [HV.out]) (by rw [HV.out]),HB1.out⟩
     · have hd2:decide ((E.s.chans.length:Int) < v)=false:=decide_eq_false h2;have HV:Hid (rchanB E ev x= (v,0)):=Lib.hid (by unfold rchanB;rw [hev];simp [h1,h2]);go_wp2_with fail;go_ret2;exact ⟨ret2 (by rw [HV.out]) (by rw [HV.out]),HB1.out⟩
 · have hd0: (er != 0)=true:=by rw [bne_iff_ne];exact h0
   have HV:Hid (rchanB E ev x= (0,er)):=Lib.hid (by unfold rchanB;rw [hev];simp [h0]);go_wp2_with fail;go_ret2;exact ⟨ret2 (by rw [HV.out]) (by rw [HV.out]),HB1.out⟩
end Go.Proofs.YthfldokfnjpkmaaGreatDoor
namespace Go.Proofs.YthfldokfnjpkmaaGreatDoor
open Go.ChangeShapes Go.WideShapes Go.ChangeAt Go.RowKit
theorem rchan_ok {E:EnvD} {ev:Int→Int × Int} {a:Int} (h: (rchanB E ev a).2=0):∃k:Nat,(rchanB E ev a).1= (k:Int)+1∧k < E.s.chans.length:=by
 unfold rchanB at h ⊢;split
 · rename_i h1
   rw [if_pos h1] at h;exact absurd h h1
 · rename_i h1
   rw [if_neg h1] at h;split
   · rename_i h2
     rw [if_pos h2] at h;simp at h
   · rename_i h2
     exact ⟨((ev a).1 - 1).toNat,by show (ev a).1=_;omega,by omega⟩
theorem chanNo_get {E:EnvD} {k:Nat} {c:ChanD} (h:E.s.chans[k]? =some c):chanNo E ((k:Int)+1)=c:=by
 unfold chanNo;rw [show ((k:Int)+1 - 1).toNat=k by omega,h];rfl
theorem shapeNo_get {E:EnvD} {c:ChanD} {s:ShapeD} (h:E.m.shapes[c.shape.toNat]? =some s):shapeNo E c=s:=by
 unfold shapeNo;rw [h];rfl
set_option maxHeartbeats 4000000 in
set_option maxRecDepth 100000 in
theorem roomC {B pe g a:Nat} {h:MH} {hs:SH} {ao:Option Addr} {ac:Nat} {E:EnvD} {ev:Int→Int × Int} {N:Nat} {x:ExprD} (w:World) (hk:Ek B w pe h hs ao ac E) (hok:Ok E) (he:EvC B pe h hs ao ac E ev N) (hx:exprAt B w g a x) (hg:g < B) (hop:25≤x.op∧x.op≤29) (hx0:0≤x.a) (hxN:x.a < N):
 Calls Tryz.prog 66 #[.pointer (some ⟨pe,0,none⟩),.pointer (some ⟨g,a,none⟩)] w fun e w'=>e= .returned (.tuple #[.int .i64 (rroomB E ev x).1,.int .i64 (rroomB E ev x).2])∧Below w.heap.size w w':=by
 have HK:=Lib.hid hk;have HO:=Lib.hid hok;have x2:=hx.c2;have hgw:g < w.heap.size:=by have:=hk.leW;omega
 have HX:=Lib.hid (fun W (hb:Below w.heap.size w W)=>(hb.cell (p:=⟨g,a,none⟩) hgw).trans hx.c0);have HC:=Lib.hid (chanC x.a w hk he hx0 hxN);clear hk hok he hx;obtain ⟨⟨v,er⟩,hev⟩:∃q,rchanB E ev x.a=q:=⟨_,rfl⟩;rw [hev] at HC;simp only at HC;go_enter Tryz.func66,Tryz.ntmps66;go_wp2_with fail;refine HC.out.mono ?_;rintro e W1 ⟨rfl,hb1⟩;have HB1:=Lib.hid hb1;have HK1:=Lib.hid (HK.out.below hb1);clear hb1 x2 HC;by_cases h0:er=0
 · have hd0: (er != 0)=false:=by rw [bne_eq_false_iff_eq];exact h0
   subst h0;obtain ⟨k,hk1,hkl⟩:=rchan_ok (E:=E) (ev:=ev) (a:=x.a) (by rw [hev]);rw [hev] at hk1;have hk2:v= (k:Int)+1:=hk1;subst hk2;obtain ⟨c,hc⟩:∃s,E.s.chans[k]? =some s:=⟨_,List.getElem?_eq_getElem hkl⟩;obtain ⟨s,hs,hs0,hs1⟩:=may_chan HO.out hc;obtain ⟨ks,hks⟩:∃q:Nat,c.shape=q:=⟨c.shape.toNat,by omega⟩;have hV:rroomB E ev x= (roomOp x.op c.queue.length s.room,0):=by
    unfold rroomB;rw [hev,if_neg (by simp),chanNo_get hc,shapeNo_get hs]
   have HV:=Lib.hid hV;rw [hks,Int.toNat_natCast] at hs;have hksl: (ks:Int) < E.m.shapes.length:=by omega
   have hks0: (0:Int)≤ks:=by omega
   have hkz: (0:Int)≤ (k:Int)+1 - 1:=by omega
   have hki: (k:Int)+1 - 1 < E.s.chans.length:=by omega
   have hke: (k:Int)+1 - 1=k:=by omega
   obtain ⟨g1,off1,ho1,hg1,hca⟩:=HK1.out.sk.sd.chans.get hc;obtain ⟨g2,off2,ho2,hg2,hsa⟩:=HK1.out.ck.md.shapes.get hs;have hcl:=HK1.out.sk.sd.chans.1;have hsl:=HK1.out.ck.md.shapes.1;have c8:=HK1.out.sk.c1;have c2:=HK1.out.ck.c2;rw [ho1] at c8;rw [ho2] at c2;have q0:=hca.c0;rw [hks] at q0;obtain ⟨qo,qc,q1,hq⟩:=hca.queue;have hql:=hq.1;have r0:=hsa.c0;have x0:=HX.out W1 HB1.out;have hbn:Below w.heap.size w (W1.drewN 0):=bdrew HB1.out 0;have HXW:=HX;clear hq hca hsa ho1 ho2 hs hs0 hs1 hks hc hV hev hk1 hbn HXW;go_wp2_with fail;go_quiet (fail);have HB2:Hid (Below w.heap.size w (W1.drewN nq)):=Lib.hid (bdrew HB1.out nq);generalize W1.drewN nq=W2 at HB2 ⊢;clear c8 c2 q0 q1 r0 x0;have x0:=HX.out W2 HB2.out;have hcs:x.op=25∨x.op=26∨x.op=27∨x.op=28∨x.op=29:=by omega
   clear hop;rcases hcs with e | e | e | e | e
   · rw [e] at x0 HV;go_wp2_with fail;go_ret2;exact ⟨ret2 (by rw [HV.out];rfl) (by rw [HV.out]),HB2.out⟩
   · rw [e] at x0 HV;obtain ⟨b,hb⟩:∃b,decide (s.room≤ (c.queue.length:Int))=b:=⟨_,rfl⟩;have HZ:Hid (rroomB E ev x= (truthI b,0)):=Lib.hid (by rw [HV.out,←hb];rfl);cases b
     · go_wp2_with fail;refine (truthC false W2).mono ?_;rintro e W3 ⟨rfl,rfl⟩;go_wp2_with fail;go_ret2;exact ⟨ret2 (by rw [HZ.out]) (by rw [HZ.out]),HB2.out⟩
     · go_wp2_with fail;refine (truthC true W2).mono ?_;rintro e W3 ⟨rfl,rfl⟩;go_wp2_with fail;go_ret2;exact ⟨ret2 (by rw [HZ.out]) (by rw [HZ.out]),HB2.out⟩
   · rw [e] at x0 HV;by_cases hz:c.queue.length=0
     · have hb: ((c.queue.length:Int) == 0)=true:=by rw [beq_iff_eq];omega
       have HZ:Hid (rroomB E ev x= (1,0)):=Lib.hid (by rw [HV.out];unfold roomOp;simp [hz];rfl);clear hz;go_wp2_with fail;refine (truthC true W2).mono ?_;rintro e W3 ⟨rfl,rfl⟩;go_wp2_with fail;go_ret2;exact ⟨ret2 (by rw [HZ.out];rfl) (by rw [HZ.out]),HB2.out⟩
     · have hb: ((c.queue.length:Int) == 0)=false:=by rw [beq_eq_false_iff_ne];omega
       have HZ:Hid (rroomB E ev x= (0,0)):=Lib.hid (by rw [HV.out];unfold roomOp;simp [hz];rfl);clear hz;go_wp2_with fail;refine (truthC false W2).mono ?_;rintro e W3 ⟨rfl,rfl⟩;go_wp2_with fail;go_ret2;exact ⟨ret2 (by rw [HZ.out];rfl) (by rw [HZ.out]),HB2.out⟩
   · rw [e] at x0 HV;obtain ⟨b,hb⟩:∃b,decide (s.room≤ (c.queue.length:Int))=b:=⟨_,rfl⟩;have HZ:Hid (rroomB E ev x= (truthI (!b),0)):=Lib.hid (by rw [HV.out,←hb];rfl);cases b
     · go_wp2_with fail;refine (truthC true W2).mono ?_;rintro e W3 ⟨rfl,rfl⟩;go_wp2_with fail;go_ret2;exact ⟨ret2 (by rw [HZ.out];rfl) (by rw [HZ.out]),HB2.out⟩
     · go_wp2_with fail;refine (truthC false W2).mono ?_;rintro e W3 ⟨rfl,rfl⟩;go_wp2_with fail;go_ret2;exact ⟨ret2 (by rw [HZ.out];rfl) (by rw [HZ.out]),HB2.out⟩
   · rw [e] at x0 HV;by_cases hz:c.queue.length=0
     · have hb: ((c.queue.length:Int) == 0)=true:=by rw [beq_iff_eq];omega
       have HZ:Hid (rroomB E ev x= (0,0)):=Lib.hid (by rw [HV.out];unfold roomOp;simp [hz];rfl);clear hz;go_wp2_with fail;refine (truthC false W2).mono ?_;rintro e W3 ⟨rfl,rfl⟩;go_wp2_with fail;go_ret2;exact ⟨ret2 (by rw [HZ.out];rfl) (by rw [HZ.out]),HB2.out⟩
     · have hb: ((c.queue.length:Int) == 0)=false:=by rw [beq_eq_false_iff_ne];omega
       have HZ:Hid (rroomB E ev x= (1,0)):=Lib.hid (by rw [HV.out];unfold roomOp;simp [hz];rfl);clear hz;go_wp2_with fail;refine (truthC true W2).mono ?_;rintro e W3 ⟨rfl,rfl⟩;go_wp2_with fail;go_ret2;exact ⟨ret2 (by rw [HZ.out];rfl) (by rw [HZ.out]),HB2.out⟩
 · have hd0: (er != 0)=true:=by rw [bne_iff_ne];exact h0
   have HV:Hid (rroomB E ev x= (0,er)):=Lib.hid (by unfold rroomB;rw [hev];simp [h0]);go_wp2_with fail;go_ret2;exact ⟨ret2 (by rw [HV.out]) (by rw [HV.out]),HB1.out⟩
end Go.Proofs.YthfldokfnjpkmaaGreatDoor
namespace Go.Proofs.YthfldokfnjpkmaaGreatDoor
open Go.ChangeShapes Go.WideShapes Go.ChangeAt Go.RowKit
theorem info_int64: (Tryz.prog.info? 2).map (fun i=>(i.zero,i.size,i.bytes))=some (some (.int .i64 0),1,8):=by kernel_rfl
def wantG (ev:Int→Int × Int) (z:Int × Int):Int:=if z.2=1 then (ev z.1).1 else 0
def wantI (ev:Int→Int × Int) (l:List (Int × Int)) (i:Nat):List Int:=(l.take i).map (wantG ev) ++ List.replicate (l.length - i) 0
theorem wantI_zero (ev:Int→Int × Int) (l:List (Int × Int)):wantI ev l 0=List.replicate l.length 0:=by unfold wantI;simp
theorem wantI_len {ev:Int→Int × Int} {l:List (Int × Int)} {i:Nat} (h:i≤l.length): (wantI ev l i).length=l.length:=by
 unfold wantI;rw [List.length_append,List.length_map,List.length_take,List.length_replicate];omega
theorem wantI_full (ev:Int→Int × Int) (l:List (Int × Int)):wantI ev l l.length=l.map (wantG ev):=by unfold wantI;simp
theorem wantI_at {ev:Int→Int × Int} {l:List (Int × Int)} {i:Nat} (h:i < l.length):wantI ev l i= (l.take i).map (wantG ev) ++ 0 :: List.replicate (l.length - (i+1)) 0:=by
 unfold wantI;rw [show l.length - i= (l.length - (i+1))+1 by omega,List.replicate_succ]
theorem wantI_succ {ev:Int→Int × Int} {l:List (Int × Int)} {i:Nat} (h:i < l.length):wantI ev l (i+1)= (l.take i).map (wantG ev) ++ wantG ev l[i] :: List.replicate (l.length - (i+1)) 0:=by
 unfold wantI;rw [List.take_succ_eq_append_getElem h,List.map_append,List.append_assoc];rfl
theorem wantI_skip {ev:Int→Int × Int} {l:List (Int × Int)} {i:Nat} (h:i < l.length) (h2:l[i].2≠1):wantI ev l (i+1)=wantI ev l i:=by
 rw [wantI_at h,wantI_succ h,show wantG ev l[i]=0 from if_neg h2]
theorem wantI_set {ev:Int→Int × Int} {l:List (Int × Int)} {i:Nat} (h:i < l.length) {v:Int} (h2:wantG ev l[i]=v): (wantI ev l i).set i v=wantI ev l (i+1):=by
 rw [wantI_at h,wantI_succ h,h2,List.set_append];rw [if_neg (by rw [List.length_map,List.length_take];omega)];rw [show i - (List.map (wantG ev) (l.take i)).length=0 by rw [List.length_map,List.length_take];omega];rfl
theorem wanted_ok {ev:Int→Int × Int}:∀ {l:List (Int × Int)},(∀j (hj:j < l.length),l[j].2=1→ (ev l[j].1).2=0)→wantedF ev l= (l.map (wantG ev),0)
 | [],_=>rfl
 | z :: r,h=>by
   have hr:=wanted_ok (l:=r) fun j hj h1=>h (j+1) (by simp;omega) h1
   unfold wantedF;rw [hr];by_cases hz:z.2=1
   · have h0:=h 0 (by simp) hz;simp only [List.getElem_cons_zero] at h0;rw [if_pos hz,if_neg (by simp [h0]),if_neg (by simp)];simp [wantG,hz]
   · rw [if_neg hz,if_neg (by simp)];simp [wantG,hz]
theorem wanted_bad {ev:Int→Int × Int}:∀ {l:List (Int × Int)} {i:Nat} (hi:i < l.length),(∀j (hj:j < l.length),j < i→l[j].2=1→ (ev l[j].1).2=0)→l[i].2=1→ (ev l[i].1).2≠0→wantedF ev l= ([],(ev l[i].1).2)
 | [],i,hi,_,_,_=>by simp at hi
 | z :: r,0,hi,h,h1,h2=>by
   simp only [List.getElem_cons_zero] at h1 h2 ⊢;unfold wantedF;rw [if_pos h1,if_pos h2]
 | z :: r,i+1,hi,h,h1,h2=>by
   simp only [List.getElem_cons_succ] at h1 h2 ⊢;have hr:=wanted_bad (l:=r) (i:=i) (by simpa using hi) (fun j hj hji=>h (j+1) (by simp;omega) (by omega)) h1 h2;unfold wantedF;rw [hr];by_cases hz:z.2=1
   · have h0:=h 0 (by simp) (by omega) hz;simp only [List.getElem_cons_zero] at h0;rw [if_pos hz,if_neg (by simp [h0]),if_pos h2]
   · rw [if_neg hz,if_pos h2]
theorem own_row {W:World} {B B' g n:Nat} {l:List Int} (h:W.ownsRow B 2 1 (.slice (some ⟨g,0,none⟩) n n) n (leftV l)) (hn:n≤8) (hg:g < B'):Row B' (some ⟨g,0,none⟩) 1 (intAt W) l:=by
 have hl:l.length=n:=by have:=h.1;unfold leftV at this;rw [List.length_map] at this;omega
 refine ⟨by omega,.inr ⟨g,0,rfl,hg,fun i hi=> ?_⟩⟩;unfold intAt;rw [show 0+i*1=i by omega];refine (World.ownsRow.cellAt h i (by omega)).trans ?_;unfold leftV;rw [List.getElem?_map,List.getElem?_eq_getElem hi];rfl
structure WantP (r:List Int × Int) (n:Nat) (w:World) (e:Ending) (w':World):Prop where
 bel:Below w.heap.size w w'
 no:r.2≠0→e= .returned (.tuple #[.slice none 0 0,.int .i64 r.2])
 yes:r.2=0→e= .returned (.tuple #[.slice (some ⟨w.heap.size,0,none⟩) r.1.length n,.int .i64 0])∧r.1.length=n∧Row (w.heap.size+1) (some ⟨w.heap.size,0,none⟩) 1 (intAt w') r.1∧w.heap.size < w'.heap.size
structure WJ (w0:World) (ev:Int→Int × Int) (l:List (Int × Int)) (n i:Nat) (W:World):Prop where
 bel:Below w0.heap.size w0 W
 row:W.ownsRow w0.heap.size 2 1 (.slice (some ⟨w0.heap.size,0,none⟩) n n) n (leftV (wantI ev l i))
 ok:∀j (hj:j < l.length),j < i→l[j].2=1→ (ev l[j].1).2=0
theorem WJ.start {w w2:World} {ev:Int→Int × Int} {l:List (Int × Int)} {n:Nat} (hl:l.length=n) (hown:w2.ownsRow w.heap.size 2 1 (.slice (some ⟨w.heap.size,0,none⟩) n n) n (madeCells #[Value.int .i64 0] n).toList) (hg:w.grownBy w2 none):WJ w ev l n 0 w2:=by
 refine ⟨(Below.refl _ _).grown hg (Nat.le_refl _) (fun k hk=>by cases hk), ?_,fun j _ h=>by omega⟩;have e: (madeCells #[Value.int .i64 0] n).toList=leftV (wantI ev l 0):=by
  unfold leftV;rw [wantI_zero,hl,List.map_replicate];exact toList_madeCells_one _ _
 rw [←e];exact hown
theorem WJ.below {w0 W W':World} {ev:Int→Int × Int} {l:List (Int × Int)} {n i:Nat} (k:WJ w0 ev l n i W) (hb:Below W.heap.size W W'):WJ w0 ev l n i W':=
 ⟨k.bel.trans (hb.mono k.bel.size),owns_below k.row hb,k.ok⟩
theorem WJ.skip {w0 W:World} {ev:Int→Int × Int} {l:List (Int × Int)} {n i:Nat} (k:WJ w0 ev l n i W) (hi:i < l.length) (h:l[i].2≠1):WJ w0 ev l n (i+1) W:=by
 refine ⟨k.bel, ?_,fun j hj hjk h1=> ?_⟩
 · rw [wantI_skip hi h];exact k.row
 · by_cases e:j=i
   · subst e;exact absurd h1 h
   · exact k.ok j hj (by omega) h1
theorem WJ.set {w0 W:World} {ev:Int→Int × Int} {l:List (Int × Int)} {n i:Nat} {v:Int} (k:WJ w0 ev l n i W) (hi:i < l.length) (h:l[i].2=1) (hv:ev l[i].1= (v,0)):WJ w0 ev l n (i+1) (W.setCell ⟨w0.heap.size,i,none⟩ (.int .i64 v)):=by
 refine ⟨k.bel.setCell (Nat.le_refl _) _, ?_,fun j hj hjk h1=> ?_⟩
 · have:=(k.row.stored i (.int .i64 v)).1;rw [←wantI_set hi (v:=v) (by unfold wantG;rw [if_pos h,hv])];unfold leftV at this ⊢;rw [List.map_set];exact this
 · by_cases e:j=i
   · subst e;rw [hv]
   · exact k.ok j hj (by omega) h1
theorem WJ.cell {w0 W:World} {ev:Int→Int × Int} {l:List (Int × Int)} {n i:Nat} (k:WJ w0 ev l n i W) (hl:l.length=n) (hi:i < l.length): (∃v,W.cell? ⟨w0.heap.size,i,none⟩=some v)∧W.frozen? ⟨w0.heap.size,i,none⟩=false:=by
 refine ⟨?_,k.row.frozenAt i⟩;have h1:=wantI_len (ev:=ev) (l:=l) (i:=i) (by omega);refine ⟨_,(World.ownsRow.cellAt k.row i (by omega)).trans (List.getElem?_eq_getElem (by unfold leftV;rw [List.length_map];omega))⟩
set_option maxHeartbeats 4000000 in
set_option maxRecDepth 100000 in
theorem wantedC {B pe:Nat} {h:MH} {hs:SH} {ao:Option Addr} {ac:Nat} {E:EnvD} {ev:Int→Int × Int} {N:Nat} (args mat:List Int) (o1 o2:Option Addr) (p1 p2:Nat) (w:World) (hk:Ek B w pe h hs ao ac E) (he:EvC B pe h hs ao ac E ev N) (h1:Row B o1 1 (intAt w) args) (h2:Row B o2 1 (intAt w) mat) (hn:args.length≤8) (hm:mat.length=args.length) (hin:∀x ∈ args,0≤x∧x < N):
 Calls Tryz.prog 116 #[.pointer (some ⟨pe,0,none⟩),.slice o1 args.length p1,.slice o2 mat.length p2] w fun e w'=>WantP (wantedF ev (args.zip mat)) args.length w e w':=by
 have HK:=Lib.hid hk;have HE:=Lib.hid he;have HR:=Lib.hid (And.intro h1 h2);have HIN:=Lib.hid hin;have hB:B≤w.heap.size:=hk.leW;have l1:=h1.1;have l2:=h2.1;have HZL:Hid ((args.zip mat).length=args.length):=Lib.hid (by rw [List.length_zip];omega);obtain ⟨i3,hi3,hz0,hz1,hz2⟩:=info_parts info_int64;have HI:=Lib.hid (And.intro hi3 (And.intro hz0 (And.intro hz1 hz2)));have HL1:Hid (args.length≤maxLen):=Lib.hid (by unfold maxLen;omega);have HL2:Hid (i3.bytes*args.length≤281474976710656):=Lib.hid (by rw [HI.out.2.2.2];omega);have HN:=Lib.hid (And.intro hn hm);clear hi3 hz0 hz1 hz2 hk he h1 h2 hin;go_enter Tryz.func116,Tryz.ntmps116;go_wp2_with (refine wpList_make_full _ rfl _ _ 23 rfl w.heap.size 2 i3 (.int .i64 0) 1 Tryz.underlying23 HI.out.1 HI.out.2.1 HI.out.2.2.1 .i64 .i64 _ _ args.length rfl rfl rfl rfl HL2.out HL1.out (Nat.le_refl _) ?_);intro w2 hown hgrow;have HWJ:=Lib.hid (WJ.start (ev:=ev) HZL.out hown hgrow);clear hown hgrow;go_wp2_with fail
 go_loopw [18] (fun iv W=>∃i:Nat,iv= .int .i64 i∧i≤args.length∧Hid (WJ w ev (args.zip mat) args.length i W)) (fun iv _=>args.length - (intOf iv).toNat)
 case atStart=>exact ⟨0,rfl,by omega,HWJ⟩
 case round=>
  clear HWJ;obtain ⟨i,rfl,hi,HJ⟩:=hrel;have hi0: (0:Int)≤i:=by omega
  by_cases hlt:i < args.length
  · have hlti: (i:Int) < args.length:=by omega
    have hlt2:i < mat.length:=by omega
    have hlti2: (i:Int) < mat.length:=by omega
    obtain ⟨g1,off1,ho1,hg1,e1⟩:=(HR.out.1.mono fun _ _ _ hg=>intAt.below (HJ.out.bel.mono hB) hg).cell hlt;obtain ⟨g2,off2,ho2,hg2,e2⟩:=(HR.out.2.mono fun _ _ _ hg=>intAt.below (HJ.out.bel.mono hB) hg).cell hlt2;subst ho1 ho2;obtain ⟨x,hx⟩:∃q,args[i]=q:=⟨_,rfl⟩;obtain ⟨m,hm⟩:∃q,mat[i]=q:=⟨_,rfl⟩;have hzl:i < (args.zip mat).length:=by rw [HZL.out];exact hlt
    have HZ:Hid ((args.zip mat)[i]= (x,m)):=Lib.hid (by rw [←hx,←hm];simp);have hxr:=HIN.out x (hx ▸ List.getElem_mem hlt);rw [hx] at e1;rw [hm] at e2;unfold intAt at e1 e2;rw [Nat.mul_one] at e1 e2;clear hx hm;by_cases hm1:m=1
    · have hq: (m != 1)=false:=by rw [bne_eq_false_iff_eq];exact hm1
      have HEC:=Lib.hid (HE.out x wr hxr.1 hxr.2 (HK.out.below HJ.out.bel));obtain ⟨⟨v,er⟩,hev⟩:∃q,ev x=q:=⟨_,rfl⟩;rw [hev] at HEC;simp only at HEC;go_wp2_with fail;refine HEC.out.mono ?_;rintro e W1 ⟨rfl,hb1⟩;have HJ1:=Lib.hid (HJ.out.below hb1);clear hb1 e1 e2 HEC;by_cases h0:er=0
      · have hd0: (er != 0)=false:=by rw [bne_eq_false_iff_eq];exact h0
        subst h0;obtain ⟨⟨cv,hcv⟩,hfz⟩:=HJ1.out.cell HZL.out hzl;have HS:Hid (WJ w ev (args.zip mat) args.length (i+1) (W1.setCell ⟨w.heap.size,i,none⟩ (.int .i64 v))):=Lib.hid (HJ1.out.set hzl (by rw [HZ.out];exact hm1) (by rw [HZ.out];exact hev));go_wp2_with fail;go_roundw;case rel=>exact ⟨i+1,by go_num,by omega,HS⟩
        case measure=>simp [intOf];omega
      · have hd0: (er != 0)=true:=by rw [bne_iff_ne];exact h0
        have HV:Hid (wantedF ev (args.zip mat)= ([],er)):=Lib.hid (by
         have:=wanted_bad hzl HJ1.out.ok (by rw [HZ.out];exact hm1) (by rw [HZ.out,hev];exact h0);rw [this,HZ.out,hev])
        go_wp2_with fail;go_ret2;exact ⟨HJ1.out.bel,fun _=>by rw [HV.out];rfl,fun h=>by rw [HV.out] at h;exact absurd h h0⟩
    · have hq: (m != 1)=true:=by rw [bne_iff_ne];exact hm1
      have HS:=Lib.hid (HJ.out.skip hzl (by rw [HZ.out];exact hm1));go_wp2_with fail;go_roundw;case rel=>exact ⟨i+1,by go_num,by omega,HS⟩
      case measure=>simp [intOf];omega
  · have hlti:¬ (i:Int) < args.length:=by omega
    have hie:i=args.length:=by omega
    subst hie;have HV:Hid (wantedF ev (args.zip mat)= ((args.zip mat).map (wantG ev),0)):=Lib.hid (wanted_ok fun j hj h=>HJ.out.ok j hj (by have:=HZL.out;omega) h);have HL:Hid ((wantedF ev (args.zip mat)).1.length=args.length):=Lib.hid (by rw [HV.out,List.length_map];exact HZL.out);go_wp2_with fail;go_ret2;refine ⟨HJ.out.bel,fun h=>absurd (by rw [HV.out]) h,fun _=>⟨by rw [HL.out];rfl,HL.out, ?_, ?_⟩⟩
    · have hr:=HJ.out.row;have e:wantI ev (args.zip mat) args.length= (wantedF ev (args.zip mat)).1:=by
       rw [HV.out,←HZL.out];exact wantI_full _ _
      rw [e] at hr;exact own_row hr HN.out.1 (Nat.lt_succ_self _)
    · exact (HJ.out.row.lt _ rfl).2
end Go.Proofs.YthfldokfnjpkmaaGreatDoor
