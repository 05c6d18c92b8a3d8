/- One step of the reckoning. -/
import Derived.Test.YthfldokfnjpkmaaGreatDoorM17
import Derived.Test.YthfldokfnjpkmaaGreatDoorM18
set_option linter.unusedVariables false
set_option linter.unusedSimpArgs false
namespace Go.Proofs.YthfldokfnjpkmaaGreatDoor
open Go.ChangeShapes Go.WideShapes Go.ChangeAt Go.RowKit
set_option maxHeartbeats 4000000 in
set_option maxRecDepth 100000 in
theorem eval_kno {B pe:Nat} {h:MH} {hs:SH} {ao:Option Addr} {ac:Nat} {E:EnvD} {ev:Int→Int × Int} {p:Nat} {x:ExprD} (w:World) (hk:Ek B w pe h hs ao ac E) (hok:Ok E) (he:EvC B pe h hs ao ac E ev p) (hx:E.m.exprs[p]? =some x) (hop:31≤x.op∧x.op≤35):
 Calls Tryz.prog 39 #[.pointer (some ⟨pe,0,none⟩),.int .i64 p] w fun e w'=>e= .returned (.tuple #[.int .i64 (evalB E ev x).1,.int .i64 (evalB E ev x).2])∧Below w.heap.size w w':=by
 have HK:=Lib.hid hk;have HO:=Lib.hid hok;have HE:=Lib.hid he;have HXG:=Lib.hid hx;have HV:=Lib.hid (evalB_kno (E:=E) (ev:=ev) hop);have c6:=hk.ck.c6;have hel:=hk.ck.md.exprs.1;obtain ⟨g,off,ho,hg,hxa⟩:=hk.ck.md.exprs.get hx;have hpl:p < E.m.exprs.length:=(List.getElem?_eq_some_iff.1 hx).1;have hpi: (p:Int) < E.m.exprs.length:=by omega
 have hp0: (0:Int)≤p:=by omega
 rw [ho] at c6;have x2:=hxa.c2;have x3:=hxa.c3;have x4:=hxa.c4;have hB:B≤w.heap.size:=hk.leW;have HXA:=Lib.hid (fun W (hb:Below w.heap.size w W)=>exprAt.below (hb.mono hB) hg hxa);have a6:∀o,(w.alloc o).cell? ⟨pe,6,none⟩=some (.slice (some ⟨g,off,none⟩) E.m.exprs.length h.ec):=fun o=>Lib.cell?_alloc_some o c6
 clear hk hok he hx hxa ho;go_enter Tryz.func39,Tryz.ntmps39;go_wp2_with fail;clear a6 c6;have HWW:=PS3.start w pe x;have z0: ((w.alloc (Obj.cells #[Value.pointer (some ⟨pe,0,none⟩)] 77)).alloc (Obj.cells #[Value.int .i64 0,Value.int .i64 0,Value.int .i64 0] 145)).cell? ⟨g,off+p*12+2,none⟩=some (.int .i64 x.a):=Lib.cell?_alloc_some _ (Lib.cell?_alloc_some _ x2);have z1: ((w.alloc (Obj.cells #[Value.pointer (some ⟨pe,0,none⟩)] 77)).alloc (Obj.cells #[Value.int .i64 0,Value.int .i64 0,Value.int .i64 0] 145)).cell? ⟨g,off+p*12+3,none⟩=some (.int .i64 x.b):=Lib.cell?_alloc_some _ (Lib.cell?_alloc_some _ x3);have z2: ((w.alloc (Obj.cells #[Value.pointer (some ⟨pe,0,none⟩)] 77)).alloc (Obj.cells #[Value.int .i64 0,Value.int .i64 0,Value.int .i64 0] 145)).cell? ⟨g,off+p*12+4,none⟩=some (.int .i64 x.c):=Lib.cell?_alloc_some _ (Lib.cell?_alloc_some _ x4);have hsz: ((w.alloc (Obj.cells #[Value.pointer (some ⟨pe,0,none⟩)] 77)).alloc (Obj.cells #[Value.int .i64 0,Value.int .i64 0,Value.int .i64 0] 145)).heap.size=w.heap.size+2:=by simp
 generalize (w.alloc (Obj.cells #[Value.pointer (some ⟨pe,0,none⟩)] 77)).alloc (Obj.cells #[Value.int .i64 0,Value.int .i64 0,Value.int .i64 0] 145)=W2 at z0 z1 z2 hsz HWW ⊢;clear x2 x3 x4;have HPS:=Lib.hid HWW;clear HWW;have y0:∀o,(W2.alloc o).cell? ⟨g,off+p*12+2,none⟩=some (.int .i64 x.a):=fun o=>Lib.cell?_alloc_some o z0
 have y1:∀o,(W2.alloc o).cell? ⟨g,off+p*12+3,none⟩=some (.int .i64 x.b):=fun o=>Lib.cell?_alloc_some o z1
 have y2:∀o,(W2.alloc o).cell? ⟨g,off+p*12+4,none⟩=some (.int .i64 x.c):=fun o=>Lib.cell?_alloc_some o z2
 go_region
 clear y0 y1 y2 z0 z1 z2;generalize (W2.alloc (Obj.cells #[Value.int .i64 x.a,Value.int .i64 x.b,Value.int .i64 x.c] 146)).drew=W3 at HPS ⊢;clear hsz;have x0:=(HXA.out W3 HPS.out.bel).c0;have xe:W3.cell? ⟨w.heap.size,0,none⟩=some (.pointer (some ⟨pe,0,none⟩)):=HPS.out.ce;have HK3:=Lib.hid (HK.out.below HPS.out.bel);have HC:=Lib.hid (knownC x.op W3.drew (HK3.out.below (Below.refl _ _).drew) HO.out hop);have hcs:x.op=31∨x.op=32∨x.op=33∨x.op=34∨x.op=35:=by omega
 clear hop;rcases hcs with e | e | e | e | e
 all_goals (
  rw [e] at x0 HC HV;go_wp2_with fail
  go_region_law (
   go_simp;go_at_call 68;refine HC.out.mono ?_;rintro e W4 ⟨rfl,hb4⟩;have HB4:=Lib.hid (HPS.out.bel.trans ((Below.refl _ _).drew.trans hb4 |>.mono HPS.out.bel.size));clear hb4)
  all_goals (
   clear x0 xe HC;go_wp2_with fail;go_ret2;exact ⟨ret2 (by rw [HV.out]) (by rw [HV.out]),HB4.out⟩))
set_option maxHeartbeats 4000000 in
set_option maxRecDepth 100000 in
theorem eval_ask {B pe:Nat} {h:MH} {hs:SH} {ao:Option Addr} {ac:Nat} {E:EnvD} {ev:Int→Int × Int} {p:Nat} {x:ExprD} (w:World) (hk:Ek B w pe h hs ao ac E) (hok:Ok E) (he:EvC B pe h hs ao ac E ev p) (hx:E.m.exprs[p]? =some x) (hop:36≤x.op∧x.op≤38) (ha:0≤x.a∧x.a < p):
 Calls Tryz.prog 39 #[.pointer (some ⟨pe,0,none⟩),.int .i64 p] w fun e w'=>e= .returned (.tuple #[.int .i64 (evalB E ev x).1,.int .i64 (evalB E ev x).2])∧Below w.heap.size w w':=by
 have HK:=Lib.hid hk;have HO:=Lib.hid hok;have HE:=Lib.hid he;have HXG:=Lib.hid hx;have HV:=Lib.hid (evalB_ask (E:=E) (ev:=ev) hop);have HA:=Lib.hid ha;clear ha;have c6:=hk.ck.c6;have hel:=hk.ck.md.exprs.1;obtain ⟨g,off,ho,hg,hxa⟩:=hk.ck.md.exprs.get hx;have hpl:p < E.m.exprs.length:=(List.getElem?_eq_some_iff.1 hx).1;have hpi: (p:Int) < E.m.exprs.length:=by omega
 have hp0: (0:Int)≤p:=by omega
 rw [ho] at c6;have x2:=hxa.c2;have x3:=hxa.c3;have x4:=hxa.c4;have hB:B≤w.heap.size:=hk.leW;have HXA:=Lib.hid (fun W (hb:Below w.heap.size w W)=>exprAt.below (hb.mono hB) hg hxa);have a6:∀o,(w.alloc o).cell? ⟨pe,6,none⟩=some (.slice (some ⟨g,off,none⟩) E.m.exprs.length h.ec):=fun o=>Lib.cell?_alloc_some o c6
 clear hk hok he hx hxa ho;go_enter Tryz.func39,Tryz.ntmps39;go_wp2_with fail;clear a6 c6;have HWW:=PS3.start w pe x;have z0: ((w.alloc (Obj.cells #[Value.pointer (some ⟨pe,0,none⟩)] 77)).alloc (Obj.cells #[Value.int .i64 0,Value.int .i64 0,Value.int .i64 0] 145)).cell? ⟨g,off+p*12+2,none⟩=some (.int .i64 x.a):=Lib.cell?_alloc_some _ (Lib.cell?_alloc_some _ x2);have z1: ((w.alloc (Obj.cells #[Value.pointer (some ⟨pe,0,none⟩)] 77)).alloc (Obj.cells #[Value.int .i64 0,Value.int .i64 0,Value.int .i64 0] 145)).cell? ⟨g,off+p*12+3,none⟩=some (.int .i64 x.b):=Lib.cell?_alloc_some _ (Lib.cell?_alloc_some _ x3);have z2: ((w.alloc (Obj.cells #[Value.pointer (some ⟨pe,0,none⟩)] 77)).alloc (Obj.cells #[Value.int .i64 0,Value.int .i64 0,Value.int .i64 0] 145)).cell? ⟨g,off+p*12+4,none⟩=some (.int .i64 x.c):=Lib.cell?_alloc_some _ (Lib.cell?_alloc_some _ x4);have hsz: ((w.alloc (Obj.cells #[Value.pointer (some ⟨pe,0,none⟩)] 77)).alloc (Obj.cells #[Value.int .i64 0,Value.int .i64 0,Value.int .i64 0] 145)).heap.size=w.heap.size+2:=by simp
 generalize (w.alloc (Obj.cells #[Value.pointer (some ⟨pe,0,none⟩)] 77)).alloc (Obj.cells #[Value.int .i64 0,Value.int .i64 0,Value.int .i64 0] 145)=W2 at z0 z1 z2 hsz HWW ⊢;clear x2 x3 x4;have HPS:=Lib.hid HWW;clear HWW;have y0:∀o,(W2.alloc o).cell? ⟨g,off+p*12+2,none⟩=some (.int .i64 x.a):=fun o=>Lib.cell?_alloc_some o z0
 have y1:∀o,(W2.alloc o).cell? ⟨g,off+p*12+3,none⟩=some (.int .i64 x.b):=fun o=>Lib.cell?_alloc_some o z1
 have y2:∀o,(W2.alloc o).cell? ⟨g,off+p*12+4,none⟩=some (.int .i64 x.c):=fun o=>Lib.cell?_alloc_some o z2
 go_region
 clear y0 y1 y2 z0 z1 z2;generalize (W2.alloc (Obj.cells #[Value.int .i64 x.a,Value.int .i64 x.b,Value.int .i64 x.c] 146)).drew=W3 at HPS ⊢;clear hsz;have x0:=(HXA.out W3 HPS.out.bel).c0;have xe:W3.cell? ⟨w.heap.size,0,none⟩=some (.pointer (some ⟨pe,0,none⟩)):=HPS.out.ce;have HK3:=Lib.hid (HK.out.below HPS.out.bel);have HPA:=Lib.hid (partC 0 W3 (by omega) HK.out HE.out HPS.out HA.out.1 HA.out.2);rw [show part3 0 x=x.a from rfl] at HPA;obtain ⟨⟨v,er⟩,hev⟩:∃q,ev x.a=q:=⟨_,rfl⟩;rw [hev] at HPA HV;simp only at HPA HV;clear hev;have HOP:Hid (∀W,PS3 w pe x (put3 0 v (0,0,0)) W→W.cell? ⟨w.heap.size,0,none⟩=some (.pointer (some ⟨pe,0,none⟩))∧W.cell? ⟨w.heap.size+1,0,none⟩=some (.int .i64 v)):=Lib.hid fun W hp=>⟨hp.ce,hp.c0⟩
 have HC:=Lib.hid (fun (W4:World) (hp:PS3 w pe x (put3 0 v (0,0,0)) W4)=>askedC v W4 (HK.out.below hp.bel) HO.out (HXA.out W4 hp.bel) hg hop);have hcs:x.op=36∨x.op=37∨x.op=38:=by omega
 clear hop;rcases hcs with e | e | e
 all_goals (
  rw [e] at x0;go_wp2_with fail;refine HPA.out.mono ?_;rintro e W4 ⟨rfl,hp4⟩;have HP4:=Lib.hid hp4;clear hp4 x0 xe;by_cases h0:er=0
  · have hd0: (er != 0)=false:=by rw [bne_eq_false_iff_eq];exact h0
    subst h0;obtain ⟨xe,c0⟩:=HOP.out W4 HP4.out;go_wp2_with fail;refine (HC.out W4 HP4.out).mono ?_;rintro e W5 ⟨rfl,hb5⟩;have HP5:=Lib.hid (HP4.out.below hb5);clear hb5 xe c0;go_wp2_with fail;go_ret2;exact ⟨ret2 (by rw [HV.out,if_neg (by simp)]) (by rw [HV.out,if_neg (by simp)]),HP5.out.bel⟩
  · have hd0: (er != 0)=true:=by rw [bne_iff_ne];exact h0
    have HR:Hid (evalB E ev x= (0,er)):=Lib.hid (by rw [HV.out,if_pos h0]);go_wp2_with fail;go_ret2;exact ⟨ret2 (by rw [HR.out]) (by rw [HR.out]),HP4.out.bel⟩)
end Go.Proofs.YthfldokfnjpkmaaGreatDoor
namespace Go.Proofs.YthfldokfnjpkmaaGreatDoor
open Go.ChangeShapes Go.WideShapes Go.ChangeAt Go.RowKit
set_option maxHeartbeats 4000000 in
set_option maxRecDepth 100000 in
theorem eval_two {B pe:Nat} {h:MH} {hs:SH} {ao:Option Addr} {ac:Nat} {E:EnvD} {ev:Int→Int × Int} {p:Nat} {x:ExprD} (w:World) (hk:Ek B w pe h hs ao ac E) (hok:Ok E) (he:EvC B pe h hs ao ac E ev p) (hx:E.m.exprs[p]? =some x) (hop:6≤x.op∧x.op≤21) (ha:0≤x.a∧x.a < p) (hb:0≤x.b∧x.b < p):
 Calls Tryz.prog 39 #[.pointer (some ⟨pe,0,none⟩),.int .i64 p] w fun e w'=>e= .returned (.tuple #[.int .i64 (evalB E ev x).1,.int .i64 (evalB E ev x).2])∧Below w.heap.size w w':=by
 have HK:=Lib.hid hk;have HO:=Lib.hid hok;have HE:=Lib.hid he;have HXG:=Lib.hid hx;have HV:=Lib.hid (evalB_two (E:=E) (ev:=ev) hop);have HA:=Lib.hid ha;clear ha;have HBB:=Lib.hid hb;clear hb;have c6:=hk.ck.c6;have hel:=hk.ck.md.exprs.1;obtain ⟨g,off,ho,hg,hxa⟩:=hk.ck.md.exprs.get hx;have hpl:p < E.m.exprs.length:=(List.getElem?_eq_some_iff.1 hx).1;have hpi: (p:Int) < E.m.exprs.length:=by omega
 have hp0: (0:Int)≤p:=by omega
 rw [ho] at c6;have x2:=hxa.c2;have x3:=hxa.c3;have x4:=hxa.c4;have hB:B≤w.heap.size:=hk.leW;have HXA:=Lib.hid (fun W (hb:Below w.heap.size w W)=>exprAt.below (hb.mono hB) hg hxa);have a6:∀o,(w.alloc o).cell? ⟨pe,6,none⟩=some (.slice (some ⟨g,off,none⟩) E.m.exprs.length h.ec):=fun o=>Lib.cell?_alloc_some o c6
 clear hk hok he hx hxa ho;go_enter Tryz.func39,Tryz.ntmps39;go_wp2_with fail;clear a6 c6;have HWW:=PS3.start w pe x;have z0: ((w.alloc (Obj.cells #[Value.pointer (some ⟨pe,0,none⟩)] 77)).alloc (Obj.cells #[Value.int .i64 0,Value.int .i64 0,Value.int .i64 0] 145)).cell? ⟨g,off+p*12+2,none⟩=some (.int .i64 x.a):=Lib.cell?_alloc_some _ (Lib.cell?_alloc_some _ x2);have z1: ((w.alloc (Obj.cells #[Value.pointer (some ⟨pe,0,none⟩)] 77)).alloc (Obj.cells #[Value.int .i64 0,Value.int .i64 0,Value.int .i64 0] 145)).cell? ⟨g,off+p*12+3,none⟩=some (.int .i64 x.b):=Lib.cell?_alloc_some _ (Lib.cell?_alloc_some _ x3);have z2: ((w.alloc (Obj.cells #[Value.pointer (some ⟨pe,0,none⟩)] 77)).alloc (Obj.cells #[Value.int .i64 0,Value.int .i64 0,Value.int .i64 0] 145)).cell? ⟨g,off+p*12+4,none⟩=some (.int .i64 x.c):=Lib.cell?_alloc_some _ (Lib.cell?_alloc_some _ x4);have hsz: ((w.alloc (Obj.cells #[Value.pointer (some ⟨pe,0,none⟩)] 77)).alloc (Obj.cells #[Value.int .i64 0,Value.int .i64 0,Value.int .i64 0] 145)).heap.size=w.heap.size+2:=by simp
 generalize (w.alloc (Obj.cells #[Value.pointer (some ⟨pe,0,none⟩)] 77)).alloc (Obj.cells #[Value.int .i64 0,Value.int .i64 0,Value.int .i64 0] 145)=W2 at z0 z1 z2 hsz HWW ⊢;clear x2 x3 x4;have HPS:=Lib.hid HWW;clear HWW;have y0:∀o,(W2.alloc o).cell? ⟨g,off+p*12+2,none⟩=some (.int .i64 x.a):=fun o=>Lib.cell?_alloc_some o z0
 have y1:∀o,(W2.alloc o).cell? ⟨g,off+p*12+3,none⟩=some (.int .i64 x.b):=fun o=>Lib.cell?_alloc_some o z1
 have y2:∀o,(W2.alloc o).cell? ⟨g,off+p*12+4,none⟩=some (.int .i64 x.c):=fun o=>Lib.cell?_alloc_some o z2
 go_region
 clear y0 y1 y2 z0 z1 z2;generalize (W2.alloc (Obj.cells #[Value.int .i64 x.a,Value.int .i64 x.b,Value.int .i64 x.c] 146)).drew=W3 at HPS ⊢;clear hsz;have x0:=(HXA.out W3 HPS.out.bel).c0;have xe:W3.cell? ⟨w.heap.size,0,none⟩=some (.pointer (some ⟨pe,0,none⟩)):=HPS.out.ce;have HK3:=Lib.hid (HK.out.below HPS.out.bel);have HPA:=Lib.hid (partC 0 W3 (by omega) HK.out HE.out HPS.out HA.out.1 HA.out.2);rw [show part3 0 x=x.a from rfl] at HPA;obtain ⟨⟨v,er⟩,hev⟩:∃q,ev x.a=q:=⟨_,rfl⟩;rw [hev] at HPA HV;simp only at HPA HV;clear hev;have HPC:Hid (∀W4,PS3 w pe x (put3 0 v (0,0,0)) W4→Calls Tryz.prog 61 #[.int .i64 (1:Nat),.pointer (some ⟨w.heap.size,0,none⟩),.pointer (some ⟨w.heap.size+2,0,none⟩),.pointer (some ⟨w.heap.size+1,0,none⟩)] W4 fun e W'=>e= .returned (.int .i64 (ev x.b).2)∧PS3 w pe x (put3 1 (ev x.b).1 (put3 0 v (0,0,0))) W'):=Lib.hid fun W4 h4=>partC 1 W4 (by omega) HK.out HE.out h4 HBB.out.1 HBB.out.2
 obtain ⟨⟨v1,er1⟩,hev1⟩:∃q,ev x.b=q:=⟨_,rfl⟩;rw [hev1] at HPC HV;simp only at HPC HV;clear hev1;have HXO:=Lib.hid (fun W (hb:Below w.heap.size w W)=>(HXA.out W hb).c0);generalize x.op=op at*;have b1: (op == 1)=false:=by rw [beq_eq_false_iff_ne];omega
 have b2: (op == 2)=false:=by rw [beq_eq_false_iff_ne];omega
 have b3: (op == 3)=false:=by rw [beq_eq_false_iff_ne];omega
 have b4: (op == 4)=false:=by rw [beq_eq_false_iff_ne];omega
 have b5: (op == 5)=false:=by rw [beq_eq_false_iff_ne];omega
 have b22: (op == 22)=false:=by rw [beq_eq_false_iff_ne];omega
 have b23: (op == 23)=false:=by rw [beq_eq_false_iff_ne];omega
 have b24: (op == 24)=false:=by rw [beq_eq_false_iff_ne];omega
 have b25: (op == 25)=false:=by rw [beq_eq_false_iff_ne];omega
 have b26: (op == 26)=false:=by rw [beq_eq_false_iff_ne];omega
 have b27: (op == 27)=false:=by rw [beq_eq_false_iff_ne];omega
 have b28: (op == 28)=false:=by rw [beq_eq_false_iff_ne];omega
 have b29: (op == 29)=false:=by rw [beq_eq_false_iff_ne];omega
 have b30: (op == 30)=false:=by rw [beq_eq_false_iff_ne];omega
 have b31: (op == 31)=false:=by rw [beq_eq_false_iff_ne];omega
 have b32: (op == 32)=false:=by rw [beq_eq_false_iff_ne];omega
 have b33: (op == 33)=false:=by rw [beq_eq_false_iff_ne];omega
 have b34: (op == 34)=false:=by rw [beq_eq_false_iff_ne];omega
 have b35: (op == 35)=false:=by rw [beq_eq_false_iff_ne];omega
 have b36: (op == 36)=false:=by rw [beq_eq_false_iff_ne];omega
 have b37: (op == 37)=false:=by rw [beq_eq_false_iff_ne];omega
 have b38: (op == 38)=false:=by rw [beq_eq_false_iff_ne];omega
 have b39: (op == 39)=false:=by rw [beq_eq_false_iff_ne];omega
 clear hop;go_wp2_with fail;clear x0 xe b1 b2 b3 b4 b5 b22 b23 b24 b25 b26 b27 b28 b29 b30 b31 b32 b33 b34 b35 b36 b37 b38 b39
 go_loopw [144] (fun iv W=>(iv= .int .i64 0∧Hid (W=W3))∨ (iv= .int .i64 1∧er=0∧Hid (PS3 w pe x (put3 0 v (0,0,0)) W))∨ (iv= .int .i64 2∧er=0∧er1=0∧Hid (PS3 w pe x (put3 1 v1 (put3 0 v (0,0,0))) W))) (fun iv _=>2 - (intOf iv).toNat)
 case atStart=>exact .inl ⟨rfl,Lib.hid rfl⟩
 case round=>
  rcases hrel with ⟨rfl,HW⟩ | ⟨rfl,rfl,HP⟩ | ⟨rfl,rfl,rfl,HP⟩
  · have hww:=HW.out;subst hww;go_wp2_with fail;refine HPA.out.mono ?_;rintro e W4 ⟨rfl,hp4⟩;have HP4:=Lib.hid hp4;clear hp4;by_cases h0:er=0
    · have hd0: (er != 0)=false:=by rw [bne_eq_false_iff_eq];exact h0
      subst h0;go_wp2_with fail;go_roundw;case rel=>exact .inr (.inl ⟨by go_num,by simp,HP4⟩)
      case measure=>simp [intOf]
    · have hd0: (er != 0)=true:=by rw [bne_iff_ne];exact h0
      have HR:Hid (evalB E ev x= (0,er)):=Lib.hid (by rw [HV.out,if_pos h0]);go_wp2_with fail;go_ret2;exact ⟨ret2 (by rw [HR.out]) (by rw [HR.out]),HP4.out.bel⟩
  · go_wp2_with fail;refine (HPC.out wr HP.out).mono ?_;rintro e W4 ⟨rfl,hp4⟩;have HP4:=Lib.hid hp4;clear hp4;by_cases h0:er1=0
    · have hd0: (er1 != 0)=false:=by rw [bne_eq_false_iff_eq];exact h0
      subst h0;go_wp2_with fail;go_roundw;case rel=>exact .inr (.inr ⟨by go_num,by simp,by simp,HP4⟩)
      case measure=>simp [intOf]
    · have hd0: (er1 != 0)=true:=by rw [bne_iff_ne];exact h0
      have HR:Hid (evalB E ev x= (0,er1)):=Lib.hid (by rw [HV.out,if_neg (by simp),if_pos h0]);go_wp2_with fail;go_ret2;exact ⟨ret2 (by rw [HR.out]) (by rw [HR.out]),HP4.out.bel⟩
  · have c0:wr.cell? ⟨w.heap.size+1,0,none⟩=some (.int .i64 v):=HP.out.c0;have c1:wr.cell? ⟨w.heap.size+1,1,none⟩=some (.int .i64 v1):=HP.out.c1;have x0:=HXO.out wr HP.out.bel;go_wp2_with fail
    go_region_law (
     go_simp;go_at_call 70;refine (val.two_any _ v v1 wr.drew).mono ?_;rintro e W5 ⟨rfl,hb5⟩;have HP5:=Lib.hid ((HP.out.below (Below.refl _ _).drew).below hb5);clear hb5)
    all_goals (
     clear x0 c0 c1;go_wp2_with fail;go_ret2;exact ⟨ret2 (by rw [HV.out,if_neg (by simp),if_neg (by simp)]) (by rw [HV.out,if_neg (by simp),if_neg (by simp)]),HP5.out.bel⟩)
end Go.Proofs.YthfldokfnjpkmaaGreatDoor
namespace Go.Proofs.YthfldokfnjpkmaaGreatDoor
open Go.ChangeShapes Go.WideShapes Go.ChangeAt Go.RowKit
theorem partsTakeAt {op:Int} {l:List Int} {n:Nat} {q:Int} (h1:l[n]? =some q) (h2:n < partsOf op):q ∈ l.take (partsOf op):=by
 have h3: (l.take (partsOf op))[n]? =some q:=by rw [List.getElem?_take,if_pos h2,h1]
 exact List.mem_of_getElem? h3
theorem pOf2 {op:Int} (h:6≤op∧op≤23):partsOf op=2:=by unfold partsOf;rw [if_neg (by omega),if_pos (by omega)]
theorem pOf3 {op:Int} (h:op=24):partsOf op=3:=by unfold partsOf;rw [if_pos (by omega)]
theorem pOf1 {op:Int} (h: (3≤op∧op≤5)∨ (25≤op∧op≤30)∨ (36≤op∧op≤38)):partsOf op=1:=by unfold partsOf;rw [if_neg (by omega),if_neg (by omega),if_pos (by omega)]
theorem evalStep {B pe:Nat} {h:MH} {hs:SH} {ao:Option Addr} {ac:Nat} {E:EnvD} {ev:Int→Int × Int} {p:Nat} {x:ExprD} (w:World) (hk:Ek B w pe h hs ao ac E) (hok:Ok E) (he:EvC B pe h hs ao ac E ev p) (hx:E.m.exprs[p]? =some x):
 Calls Tryz.prog 39 #[.pointer (some ⟨pe,0,none⟩),.int .i64 p] w fun e w'=>e= .returned (.tuple #[.int .i64 (evalB E ev x).1,.int .i64 (evalB E ev x).2])∧Below w.heap.size w w':=by
 obtain ⟨hxb,hps⟩:=(good_ex hok).ok p x hx;unfold exprB at hxb;simp only [Bool.and_eq_true,decide_eq_true_eq] at hxb;obtain ⟨⟨hop,-⟩,hkind⟩:=hxb;have hA:1≤partsOf x.op→0≤x.a∧x.a < p:=fun h1=>hps x.a (List.mem_append_left _ (partsTakeAt (n:=0) rfl (by omega)))
 have hBB:2≤partsOf x.op→0≤x.b∧x.b < p:=fun h1=>hps x.b (List.mem_append_left _ (partsTakeAt (n:=1) rfl (by omega)))
 have hC:3≤partsOf x.op→0≤x.c∧x.c < p:=fun h1=>hps x.c (List.mem_append_left _ (partsTakeAt (n:=2) rfl (by omega)))
 by_cases h1:x.op=1
 · exact eval_num w hk hok he hx h1
 by_cases h2:x.op=2
 · have hv:varB E.m x.v=true:=by
    unfold kindB at hkind;rw [if_neg h1,if_pos h2] at hkind;exact hkind
   have hm:moreL x= (if x.v.scope=2 then [x.v.who] else []) ++ x.v.dims.map (·.i):=if_pos h2;refine eval_var w hk hok he hx h2 (VarF.of hv) (fun hs=>hps _ (List.mem_append_right _ ?_)) (fun d hd=>hps _ (List.mem_append_right _ ?_))
   · rw [hm,if_pos hs];exact List.mem_append_left _ (List.mem_cons_self ..)
   · rw [hm];exact List.mem_append_right _ (List.mem_map_of_mem hd)
 by_cases h3:3≤x.op∧x.op≤5
 · exact eval_one w hk hok he hx h3 (hA (by rw [pOf1 (.inl h3)];omega))
 by_cases h4:22≤x.op∧x.op≤24
 · by_cases h24:x.op=24
   · have e:=pOf3 h24;exact eval_cho w hk hok he hx h4 (hA (by omega)) (hBB (by omega)) (fun _=>hC (by omega))
   · have e:=pOf2 (op:=x.op) (by omega);exact eval_cho w hk hok he hx h4 (hA (by omega)) (hBB (by omega)) (fun h=>absurd h h24)
 by_cases h5:25≤x.op∧x.op≤29
 · exact eval_roo w hk hok he hx h5 (hA (by rw [pOf1 (by omega)];omega))
 by_cases h6:x.op=30
 · have hf:fieldsB E.m x.args x.mat=true:=by
    unfold kindB at hkind;rw [if_neg h1,if_neg h2,if_pos h6] at hkind;simp only [Bool.and_eq_true] at hkind;exact hkind.2
   unfold fieldsB at hf;simp only [Bool.and_eq_true,Bool.not_eq_true',decide_eq_false_iff_not] at hf;have hm:moreL x=x.args:=by
    unfold moreL;rw [if_neg h2,if_pos (.inl h6)]
   exact eval_pol w hk hok he hx h6 (hA (by rw [pOf1 (by omega)];omega)) (by omega) (by omega) (fun q hq=>hps _ (List.mem_append_right _ (by rw [hm];exact hq)))
 by_cases h7:31≤x.op∧x.op≤35
 · exact eval_kno w hk hok he hx h7
 by_cases h8:36≤x.op∧x.op≤38
 · exact eval_ask w hk hok he hx h8 (hA (by rw [pOf1 (by omega)];omega))
 by_cases h9:x.op=39
 · exact eval_run w hk hok he hx h9
 have e:=pOf2 (op:=x.op) (by omega);exact eval_two w hk hok he hx (by omega) (hA (by omega)) (hBB (by omega))
theorem evalAll {B pe:Nat} {h:MH} {hs:SH} {ao:Option Addr} {ac:Nat} {E:EnvD} (hok:Ok E):∀ (f p:Nat),p < f→p < E.m.exprs.length→∀W,Ek B W pe h hs ao ac E→
 Calls Tryz.prog 39 #[.pointer (some ⟨pe,0,none⟩),.int .i64 p] W fun e W'=>e= .returned (.tuple #[.int .i64 (evalF E f p).1,.int .i64 (evalF E f p).2])∧Below W.heap.size W W'
 | 0,_,h0,_,_,_=>by omega
 | f+1,p,hp,hl,W,hk=>by
   obtain ⟨x,hx⟩:∃x,E.m.exprs[p]? =some x:=⟨_,List.getElem?_eq_getElem hl⟩;have hv:evalF E (f+1) p=evalB E (evalF E f) x:=by
    show (match E.m.exprs[((p:Int)).toNat]? with | some x=>evalB E (evalF E f) x | none=>(0,0))=_;rw [Int.toNat_natCast,hx]
   rw [hv];exact evalStep W hk hok (fun q V h0 hq hkV=>by
    obtain ⟨k,rfl⟩:∃k:Nat,q=k:=⟨q.toNat,by omega⟩;exact evalAll hok f k (by omega) (by omega) V hkV) hx
theorem evalC {B pe:Nat} {h:MH} {hs:SH} {ao:Option Addr} {ac:Nat} {E:EnvD} (hok:Ok E):EvC B pe h hs ao ac E (evalF E E.m.exprs.length) E.m.exprs.length:=fun q V h0 hq hkV=>by
 obtain ⟨k,rfl⟩:∃k:Nat,q=k:=⟨q.toNat,by omega⟩;exact evalAll hok _ k (by omega) (by omega) V hkV
end Go.Proofs.YthfldokfnjpkmaaGreatDoor
namespace Go.Proofs.YthfldokfnjpkmaaGreatDoor
open Go.ChangeShapes Go.WideShapes Go.ChangeAt Go.RowKit
def eCells (h:MH) (hs:SH) (ao:Option Addr) (ac:Nat) (E:EnvD):Array Value:=#[.slice h.go E.m.globals.length h.gc,.slice h.io E.m.init.length h.ic,.slice h.so E.m.shapes.length h.sc,.slice h.co E.m.chans.length h.cc,.slice h.po E.m.procs.length h.pc,.int .i64 E.m.claim,.slice h.eo E.m.exprs.length h.ec,.slice hs.go E.s.globals.length hs.gc,.slice hs.co E.s.chans.length hs.cc,.slice hs.po E.s.procs.length hs.pc,.int .i64 E.s.last,.int .i64 E.s.alone,.int .i64 E.s.claim,.int .i64 E.pid,.bool E.timeout,.slice ao E.able.length ac]
def envE (E:EnvD) (x:Int):Int:=if stateE E.m E.s≠0 then stateE E.m E.s else if E.pid < -1∨ (E.s.procs.length:Int)≤E.pid∨x < 0∨ (E.m.exprs.length:Int)≤x then 42 else 0
structure ED (B:Nat) (w:World) (h:MH) (hs:SH) (ao:Option Addr) (E:EnvD):Prop where
 md:MD B w h E.m
 sd:SD B w hs E.s
 able:Row B ao 1 (boolAt w) E.able
theorem envE_ok {E:EnvD} {x:Int} (h:envE E x=0):Ok E∧0≤x∧x < E.m.exprs.length:=by
 unfold envE at h;split at h
 · rename_i h1
   exact absurd h h1
 · rename_i h1
   split at h
   · simp at h
   · rename_i h2
     have h3:stateE E.m E.s=0:=by simpa using h1
     unfold stateE at h3;split at h3
     · rename_i h4
       split at h3
       · rename_i h5
         exact ⟨⟨h4,h5,by omega⟩,by omega,by omega⟩
       · simp at h3
     · simp at h3
theorem ED.below {B:Nat} {w w':World} {h:MH} {hs:SH} {ao:Option Addr} {E:EnvD} (k:ED B w h hs ao E) (hb:Below B w w'):ED B w' h hs ao E:=
 ⟨k.md.below hb,k.sd.below hb,k.able.mono fun _ _ _ hg=>boolAt.below hb hg⟩
theorem Ek.of {B pe:Nat} {W:World} {h:MH} {hs:SH} {ao:Option Addr} {ac:Nat} {E:EnvD} {T:TypeId} (hblk:W.heap[pe]? =some (.cells (eCells h hs ao ac E) T (0,0))) (hB:B≤pe) (hd:ED B W h hs ao E):Ek B W pe h hs ao ac E:=by
 have hlt:=lt_of_block hblk;refine ⟨⟨?_, ?_, ?_, ?_, ?_, ?_, ?_,Nat.le_of_lt (Nat.lt_of_le_of_lt hB hlt),hlt,hd.md⟩,⟨?_, ?_, ?_, ?_, ?_, ?_,Nat.le_of_lt (Nat.lt_of_le_of_lt hB hlt),hlt,hd.sd⟩, ?_, ?_, ?_,hd.able⟩
 all_goals exact (cell_of_row _ _ _ _ _ _ hblk).trans rfl
theorem Ek.ofW {B pe:Nat} {W:World} {h:MH} {hs:SH} {ao:Option Addr} {ac:Nat} {E:EnvD} {T:TypeId} (hblk:W.heap[pe]? =some (.cells (eCells h hs ao ac E) T (0,0))) (hB:B≤W.heap.size) (hd:ED B W h hs ao E):Ek B W pe h hs ao ac E:=by
 have hlt:=lt_of_block hblk;refine ⟨⟨?_, ?_, ?_, ?_, ?_, ?_, ?_,hB,hlt,hd.md⟩,⟨?_, ?_, ?_, ?_, ?_, ?_,hB,hlt,hd.sd⟩, ?_, ?_, ?_,hd.able⟩
 all_goals exact (cell_of_row _ _ _ _ _ _ hblk).trans rfl
end Go.Proofs.YthfldokfnjpkmaaGreatDoor
namespace Go.Proofs.YthfldokfnjpkmaaGreatDoor
open Go.ChangeShapes Go.WideShapes Go.ChangeAt Go.RowKit
def evE (E:EnvD):Int→Int × Int:=evalF E E.m.exprs.length
def exprNo (E:EnvD) (x:Int):ExprD:=E.m.exprs[x.toNat]?.getD ⟨0,0,0,0,0,⟨0,0,0,0,[]⟩,[],[]⟩
def envEval (E:EnvD) (x:Int):Int × Int:=if envE E x≠0 then (0,envE E x) else evE E x
def envChan (E:EnvD) (x:Int):Int × Int:=if envE E x≠0 then (0,envE E x) else rchanB E (evE E) x
def envSlot (E:EnvD) (x:Int):Int × Int × Int:=if envE E x≠0 then (0,0,envE E x) else rslotB E (evE E) (exprNo E x)
theorem var_facts {E:EnvD} (hok:Ok E) {p:Nat} {x:ExprD} (hx:E.m.exprs[p]? =some x) (h2:x.op=2):VarF x.v∧ (x.v.scope=2→0≤x.v.who∧x.v.who < p)∧∀d ∈ x.v.dims,0≤d.i∧d.i < p:=by
 obtain ⟨hxb,hps⟩:=(good_ex hok).ok p x hx;unfold exprB at hxb;simp only [Bool.and_eq_true,decide_eq_true_eq] at hxb;obtain ⟨-,hkind⟩:=hxb;have hv:varB E.m x.v=true:=by
  unfold kindB at hkind;rw [if_neg (by omega),if_pos h2] at hkind;exact hkind
 have hm:moreL x= (if x.v.scope=2 then [x.v.who] else []) ++ x.v.dims.map (·.i):=if_pos h2;refine ⟨VarF.of hv,fun hs=>hps _ (List.mem_append_right _ ?_),fun d hd=>hps _ (List.mem_append_right _ ?_)⟩
 · rw [hm,if_pos hs];exact List.mem_append_left _ (List.mem_cons_self ..)
 · rw [hm];exact List.mem_append_right _ (List.mem_map_of_mem hd)
end Go.Proofs.YthfldokfnjpkmaaGreatDoor
