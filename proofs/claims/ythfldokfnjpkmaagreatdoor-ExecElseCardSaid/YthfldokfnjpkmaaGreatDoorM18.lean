/- One step of the reckoning. -/
import Derived.Test.YthfldokfnjpkmaaGreatDoorM17
import Derived.Test.YthfldokfnjpkmaaGreatDoorM15
set_option linter.unusedVariables false
set_option linter.unusedSimpArgs false
namespace Go.Proofs.YthfldokfnjpkmaaGreatDoor
open Go.ChangeShapes Go.WideShapes Go.ChangeAt Go.RowKit
set_option maxHeartbeats 4000000 in
set_option maxRecDepth 100000 in
theorem eval_num {B pe:Nat} {h:MH} {hs:SH} {ao:Option Addr} {ac:Nat} {E:EnvD} {ev:Int→Int × Int} {p:Nat} {x:ExprD} (w:World) (hk:Ek B w pe h hs ao ac E) (hok:Ok E) (he:EvC B pe h hs ao ac E ev p) (hx:E.m.exprs[p]? =some x) (hop:x.op=1):
 Calls Tryz.prog 39 #[.pointer (some ⟨pe,0,none⟩),.int .i64 p] w fun e w'=>e= .returned (.tuple #[.int .i64 (evalB E ev x).1,.int .i64 (evalB E ev x).2])∧Below w.heap.size w w':=by
 have HK:=Lib.hid hk;have HO:=Lib.hid hok;have HE:=Lib.hid he;have HXG:=Lib.hid hx;have HV:=Lib.hid (evalB_num (E:=E) (ev:=ev) hop);have c6:=hk.ck.c6;have hel:=hk.ck.md.exprs.1;obtain ⟨g,off,ho,hg,hxa⟩:=hk.ck.md.exprs.get hx;have hpl:p < E.m.exprs.length:=(List.getElem?_eq_some_iff.1 hx).1;have hpi: (p:Int) < E.m.exprs.length:=by omega
 have hp0: (0:Int)≤p:=by omega
 rw [ho] at c6;have x2:=hxa.c2;have x3:=hxa.c3;have x4:=hxa.c4;have hB:B≤w.heap.size:=hk.leW;have HXA:=Lib.hid (fun W (hb:Below w.heap.size w W)=>exprAt.below (hb.mono hB) hg hxa);have a6:∀o,(w.alloc o).cell? ⟨pe,6,none⟩=some (.slice (some ⟨g,off,none⟩) E.m.exprs.length h.ec):=fun o=>Lib.cell?_alloc_some o c6
 clear hk hok he hx hxa ho;go_enter Tryz.func39,Tryz.ntmps39;go_wp2_with fail;clear a6 c6;have HWW:=PS3.start w pe x;have z0: ((w.alloc (Obj.cells #[Value.pointer (some ⟨pe,0,none⟩)] 77)).alloc (Obj.cells #[Value.int .i64 0,Value.int .i64 0,Value.int .i64 0] 145)).cell? ⟨g,off+p*12+2,none⟩=some (.int .i64 x.a):=Lib.cell?_alloc_some _ (Lib.cell?_alloc_some _ x2);have z1: ((w.alloc (Obj.cells #[Value.pointer (some ⟨pe,0,none⟩)] 77)).alloc (Obj.cells #[Value.int .i64 0,Value.int .i64 0,Value.int .i64 0] 145)).cell? ⟨g,off+p*12+3,none⟩=some (.int .i64 x.b):=Lib.cell?_alloc_some _ (Lib.cell?_alloc_some _ x3);have z2: ((w.alloc (Obj.cells #[Value.pointer (some ⟨pe,0,none⟩)] 77)).alloc (Obj.cells #[Value.int .i64 0,Value.int .i64 0,Value.int .i64 0] 145)).cell? ⟨g,off+p*12+4,none⟩=some (.int .i64 x.c):=Lib.cell?_alloc_some _ (Lib.cell?_alloc_some _ x4);have hsz: ((w.alloc (Obj.cells #[Value.pointer (some ⟨pe,0,none⟩)] 77)).alloc (Obj.cells #[Value.int .i64 0,Value.int .i64 0,Value.int .i64 0] 145)).heap.size=w.heap.size+2:=by simp
 generalize (w.alloc (Obj.cells #[Value.pointer (some ⟨pe,0,none⟩)] 77)).alloc (Obj.cells #[Value.int .i64 0,Value.int .i64 0,Value.int .i64 0] 145)=W2 at z0 z1 z2 hsz HWW ⊢;clear x2 x3 x4;have HPS:=Lib.hid HWW;clear HWW;have y0:∀o,(W2.alloc o).cell? ⟨g,off+p*12+2,none⟩=some (.int .i64 x.a):=fun o=>Lib.cell?_alloc_some o z0
 have y1:∀o,(W2.alloc o).cell? ⟨g,off+p*12+3,none⟩=some (.int .i64 x.b):=fun o=>Lib.cell?_alloc_some o z1
 have y2:∀o,(W2.alloc o).cell? ⟨g,off+p*12+4,none⟩=some (.int .i64 x.c):=fun o=>Lib.cell?_alloc_some o z2
 go_region
 clear y0 y1 y2 z0 z1 z2;generalize (W2.alloc (Obj.cells #[Value.int .i64 x.a,Value.int .i64 x.b,Value.int .i64 x.c] 146)).drew=W3 at HPS ⊢;clear hsz;have x0:=(HXA.out W3 HPS.out.bel).c0;have xe:W3.cell? ⟨w.heap.size,0,none⟩=some (.pointer (some ⟨pe,0,none⟩)):=HPS.out.ce;have HK3:=Lib.hid (HK.out.below HPS.out.bel);rw [hop] at x0;have x1:=(HXA.out W3 HPS.out.bel).c1;go_wp2_with fail;go_ret2;exact ⟨ret2 (by rw [HV.out]) (by rw [HV.out]),HPS.out.bel⟩
set_option maxHeartbeats 4000000 in
set_option maxRecDepth 100000 in
theorem eval_var {B pe:Nat} {h:MH} {hs:SH} {ao:Option Addr} {ac:Nat} {E:EnvD} {ev:Int→Int × Int} {p:Nat} {x:ExprD} (w:World) (hk:Ek B w pe h hs ao ac E) (hok:Ok E) (he:EvC B pe h hs ao ac E ev p) (hx:E.m.exprs[p]? =some x) (hop:x.op=2) (hvf:VarF x.v) (hwho:x.v.scope=2→0≤x.v.who∧x.v.who < p) (hd:∀d ∈ x.v.dims,0≤d.i∧d.i < p):
 Calls Tryz.prog 39 #[.pointer (some ⟨pe,0,none⟩),.int .i64 p] w fun e w'=>e= .returned (.tuple #[.int .i64 (evalB E ev x).1,.int .i64 (evalB E ev x).2])∧Below w.heap.size w w':=by
 have HK:=Lib.hid hk;have HO:=Lib.hid hok;have HE:=Lib.hid he;have HXG:=Lib.hid hx;have HV:=Lib.hid (evalB_var (E:=E) (ev:=ev) hop);have HVF:=Lib.hid hvf;have HWH:=Lib.hid hwho;have HD:=Lib.hid hd;clear hvf hwho hd;have c6:=hk.ck.c6;have hel:=hk.ck.md.exprs.1;obtain ⟨g,off,ho,hg,hxa⟩:=hk.ck.md.exprs.get hx;have hpl:p < E.m.exprs.length:=(List.getElem?_eq_some_iff.1 hx).1;have hpi: (p:Int) < E.m.exprs.length:=by omega
 have hp0: (0:Int)≤p:=by omega
 rw [ho] at c6;have x2:=hxa.c2;have x3:=hxa.c3;have x4:=hxa.c4;have hB:B≤w.heap.size:=hk.leW;have HXA:=Lib.hid (fun W (hb:Below w.heap.size w W)=>exprAt.below (hb.mono hB) hg hxa);have a6:∀o,(w.alloc o).cell? ⟨pe,6,none⟩=some (.slice (some ⟨g,off,none⟩) E.m.exprs.length h.ec):=fun o=>Lib.cell?_alloc_some o c6
 clear hk hok he hx hxa ho;go_enter Tryz.func39,Tryz.ntmps39;go_wp2_with fail;clear a6 c6;have HWW:=PS3.start w pe x;have z0: ((w.alloc (Obj.cells #[Value.pointer (some ⟨pe,0,none⟩)] 77)).alloc (Obj.cells #[Value.int .i64 0,Value.int .i64 0,Value.int .i64 0] 145)).cell? ⟨g,off+p*12+2,none⟩=some (.int .i64 x.a):=Lib.cell?_alloc_some _ (Lib.cell?_alloc_some _ x2);have z1: ((w.alloc (Obj.cells #[Value.pointer (some ⟨pe,0,none⟩)] 77)).alloc (Obj.cells #[Value.int .i64 0,Value.int .i64 0,Value.int .i64 0] 145)).cell? ⟨g,off+p*12+3,none⟩=some (.int .i64 x.b):=Lib.cell?_alloc_some _ (Lib.cell?_alloc_some _ x3);have z2: ((w.alloc (Obj.cells #[Value.pointer (some ⟨pe,0,none⟩)] 77)).alloc (Obj.cells #[Value.int .i64 0,Value.int .i64 0,Value.int .i64 0] 145)).cell? ⟨g,off+p*12+4,none⟩=some (.int .i64 x.c):=Lib.cell?_alloc_some _ (Lib.cell?_alloc_some _ x4);have hsz: ((w.alloc (Obj.cells #[Value.pointer (some ⟨pe,0,none⟩)] 77)).alloc (Obj.cells #[Value.int .i64 0,Value.int .i64 0,Value.int .i64 0] 145)).heap.size=w.heap.size+2:=by simp
 generalize (w.alloc (Obj.cells #[Value.pointer (some ⟨pe,0,none⟩)] 77)).alloc (Obj.cells #[Value.int .i64 0,Value.int .i64 0,Value.int .i64 0] 145)=W2 at z0 z1 z2 hsz HWW ⊢;clear x2 x3 x4;have HPS:=Lib.hid HWW;clear HWW;have y0:∀o,(W2.alloc o).cell? ⟨g,off+p*12+2,none⟩=some (.int .i64 x.a):=fun o=>Lib.cell?_alloc_some o z0
 have y1:∀o,(W2.alloc o).cell? ⟨g,off+p*12+3,none⟩=some (.int .i64 x.b):=fun o=>Lib.cell?_alloc_some o z1
 have y2:∀o,(W2.alloc o).cell? ⟨g,off+p*12+4,none⟩=some (.int .i64 x.c):=fun o=>Lib.cell?_alloc_some o z2
 go_region
 clear y0 y1 y2 z0 z1 z2;generalize (W2.alloc (Obj.cells #[Value.int .i64 x.a,Value.int .i64 x.b,Value.int .i64 x.c] 146)).drew=W3 at HPS ⊢;clear hsz;have x0:=(HXA.out W3 HPS.out.bel).c0;have xe:W3.cell? ⟨w.heap.size,0,none⟩=some (.pointer (some ⟨pe,0,none⟩)):=HPS.out.ce;have HK3:=Lib.hid (HK.out.below HPS.out.bel);rw [hop] at x0;have HS:=Lib.hid (slotC W3 HK3.out HO.out HE.out HXG.out (fun _=>HVF.out) (fun _=>HWH.out) (fun _=>HD.out));have HSR:=Lib.hid (slot_range (ev:=ev) HO.out HVF.out);obtain ⟨⟨q,s,er⟩,hq⟩:∃r,rslotB E ev x=r:=⟨_,rfl⟩;rw [hq] at HS HV HSR;simp only at HS HV HSR;clear hq;go_wp2_with fail;refine HS.out.mono ?_;rintro e W4 ⟨rfl,hb4⟩;have HP4:=Lib.hid (HPS.out.below hb4);clear hb4 x0 xe HS;by_cases h0:er=0
 · have hd0: (er != 0)=false:=by rw [bne_eq_false_iff_eq];exact h0
   subst h0;obtain ⟨hqr,k,rfl,hkl⟩:=HSR.out rfl;have xe:W4.cell? ⟨w.heap.size,0,none⟩=some (.pointer (some ⟨pe,0,none⟩)):=HP4.out.ce;go_wp2_with fail;refine (slotsC q W4 (HK.out.below HP4.out.bel) hqr).mono ?_;rintro e W5 ⟨so,sc,hsr,rfl,rfl⟩;have hsl:=hsr.1;obtain ⟨g1,off1,ho1,hg1,e1⟩:=hsr.cell hkl;subst ho1;unfold intAt at e1;rw [Nat.mul_one] at e1;have hkz: (0:Int)≤k:=by omega
   have hki: (k:Int) < (slotsL E q).length:=by omega
   obtain ⟨u,hu⟩:∃u,(slotsL E q)[k]=u:=⟨_,rfl⟩;rw [hu] at e1;have HR:Hid (evalB E ev x= (u,0)):=Lib.hid (by rw [HV.out,if_neg (by simp)];unfold slotVal;rw [Int.toNat_natCast,getD_at hkl,hu]);clear hsr hu;go_wp2_with fail;go_ret2;exact ⟨ret2 (by rw [HR.out]) (by rw [HR.out]),HP4.out.bel⟩
 · have hd0: (er != 0)=true:=by rw [bne_iff_ne];exact h0
   have HR:Hid (evalB E ev x= (0,er)):=Lib.hid (by rw [HV.out,if_pos h0]);go_wp2_with fail;go_ret2;exact ⟨ret2 (by rw [HR.out]) (by rw [HR.out]),HP4.out.bel⟩
set_option maxHeartbeats 4000000 in
set_option maxRecDepth 100000 in
theorem eval_run {B pe:Nat} {h:MH} {hs:SH} {ao:Option Addr} {ac:Nat} {E:EnvD} {ev:Int→Int × Int} {p:Nat} {x:ExprD} (w:World) (hk:Ek B w pe h hs ao ac E) (hok:Ok E) (he:EvC B pe h hs ao ac E ev p) (hx:E.m.exprs[p]? =some x) (hop:x.op=39):
 Calls Tryz.prog 39 #[.pointer (some ⟨pe,0,none⟩),.int .i64 p] w fun e w'=>e= .returned (.tuple #[.int .i64 (evalB E ev x).1,.int .i64 (evalB E ev x).2])∧Below w.heap.size w w':=by
 have HK:=Lib.hid hk;have HO:=Lib.hid hok;have HE:=Lib.hid he;have HXG:=Lib.hid hx;have HV:=Lib.hid (evalB_run (E:=E) (ev:=ev) hop);have c6:=hk.ck.c6;have hel:=hk.ck.md.exprs.1;obtain ⟨g,off,ho,hg,hxa⟩:=hk.ck.md.exprs.get hx;have hpl:p < E.m.exprs.length:=(List.getElem?_eq_some_iff.1 hx).1;have hpi: (p:Int) < E.m.exprs.length:=by omega
 have hp0: (0:Int)≤p:=by omega
 rw [ho] at c6;have x2:=hxa.c2;have x3:=hxa.c3;have x4:=hxa.c4;have hB:B≤w.heap.size:=hk.leW;have HXA:=Lib.hid (fun W (hb:Below w.heap.size w W)=>exprAt.below (hb.mono hB) hg hxa);have a6:∀o,(w.alloc o).cell? ⟨pe,6,none⟩=some (.slice (some ⟨g,off,none⟩) E.m.exprs.length h.ec):=fun o=>Lib.cell?_alloc_some o c6
 clear hk hok he hx hxa ho;go_enter Tryz.func39,Tryz.ntmps39;go_wp2_with fail;clear a6 c6;have HWW:=PS3.start w pe x;have z0: ((w.alloc (Obj.cells #[Value.pointer (some ⟨pe,0,none⟩)] 77)).alloc (Obj.cells #[Value.int .i64 0,Value.int .i64 0,Value.int .i64 0] 145)).cell? ⟨g,off+p*12+2,none⟩=some (.int .i64 x.a):=Lib.cell?_alloc_some _ (Lib.cell?_alloc_some _ x2);have z1: ((w.alloc (Obj.cells #[Value.pointer (some ⟨pe,0,none⟩)] 77)).alloc (Obj.cells #[Value.int .i64 0,Value.int .i64 0,Value.int .i64 0] 145)).cell? ⟨g,off+p*12+3,none⟩=some (.int .i64 x.b):=Lib.cell?_alloc_some _ (Lib.cell?_alloc_some _ x3);have z2: ((w.alloc (Obj.cells #[Value.pointer (some ⟨pe,0,none⟩)] 77)).alloc (Obj.cells #[Value.int .i64 0,Value.int .i64 0,Value.int .i64 0] 145)).cell? ⟨g,off+p*12+4,none⟩=some (.int .i64 x.c):=Lib.cell?_alloc_some _ (Lib.cell?_alloc_some _ x4);have hsz: ((w.alloc (Obj.cells #[Value.pointer (some ⟨pe,0,none⟩)] 77)).alloc (Obj.cells #[Value.int .i64 0,Value.int .i64 0,Value.int .i64 0] 145)).heap.size=w.heap.size+2:=by simp
 generalize (w.alloc (Obj.cells #[Value.pointer (some ⟨pe,0,none⟩)] 77)).alloc (Obj.cells #[Value.int .i64 0,Value.int .i64 0,Value.int .i64 0] 145)=W2 at z0 z1 z2 hsz HWW ⊢;clear x2 x3 x4;have HPS:=Lib.hid HWW;clear HWW;have y0:∀o,(W2.alloc o).cell? ⟨g,off+p*12+2,none⟩=some (.int .i64 x.a):=fun o=>Lib.cell?_alloc_some o z0
 have y1:∀o,(W2.alloc o).cell? ⟨g,off+p*12+3,none⟩=some (.int .i64 x.b):=fun o=>Lib.cell?_alloc_some o z1
 have y2:∀o,(W2.alloc o).cell? ⟨g,off+p*12+4,none⟩=some (.int .i64 x.c):=fun o=>Lib.cell?_alloc_some o z2
 go_region
 clear y0 y1 y2 z0 z1 z2;generalize (W2.alloc (Obj.cells #[Value.int .i64 x.a,Value.int .i64 x.b,Value.int .i64 x.c] 146)).drew=W3 at HPS ⊢;clear hsz;have x0:=(HXA.out W3 HPS.out.bel).c0;have xe:W3.cell? ⟨w.heap.size,0,none⟩=some (.pointer (some ⟨pe,0,none⟩)):=HPS.out.ce;have HK3:=Lib.hid (HK.out.below HPS.out.bel);rw [hop] at x0;go_wp2_with fail;go_ret2;exact ⟨ret2 (by rw [HV.out]) (by rw [HV.out]),HPS.out.bel⟩
end Go.Proofs.YthfldokfnjpkmaaGreatDoor
namespace Go.Proofs.YthfldokfnjpkmaaGreatDoor
open Go.ChangeShapes Go.WideShapes Go.ChangeAt Go.RowKit
set_option maxHeartbeats 4000000 in
set_option maxRecDepth 100000 in
theorem eval_one {B pe:Nat} {h:MH} {hs:SH} {ao:Option Addr} {ac:Nat} {E:EnvD} {ev:Int→Int × Int} {p:Nat} {x:ExprD} (w:World) (hk:Ek B w pe h hs ao ac E) (hok:Ok E) (he:EvC B pe h hs ao ac E ev p) (hx:E.m.exprs[p]? =some x) (hop:3≤x.op∧x.op≤5) (ha:0≤x.a∧x.a < p):
 Calls Tryz.prog 39 #[.pointer (some ⟨pe,0,none⟩),.int .i64 p] w fun e w'=>e= .returned (.tuple #[.int .i64 (evalB E ev x).1,.int .i64 (evalB E ev x).2])∧Below w.heap.size w w':=by
 have HK:=Lib.hid hk;have HO:=Lib.hid hok;have HE:=Lib.hid he;have HXG:=Lib.hid hx;have HV:=Lib.hid (evalB_one (E:=E) (ev:=ev) hop);have HA:=Lib.hid ha;clear ha;have c6:=hk.ck.c6;have hel:=hk.ck.md.exprs.1;obtain ⟨g,off,ho,hg,hxa⟩:=hk.ck.md.exprs.get hx;have hpl:p < E.m.exprs.length:=(List.getElem?_eq_some_iff.1 hx).1;have hpi: (p:Int) < E.m.exprs.length:=by omega
 have hp0: (0:Int)≤p:=by omega
 rw [ho] at c6;have x2:=hxa.c2;have x3:=hxa.c3;have x4:=hxa.c4;have hB:B≤w.heap.size:=hk.leW;have HXA:=Lib.hid (fun W (hb:Below w.heap.size w W)=>exprAt.below (hb.mono hB) hg hxa);have a6:∀o,(w.alloc o).cell? ⟨pe,6,none⟩=some (.slice (some ⟨g,off,none⟩) E.m.exprs.length h.ec):=fun o=>Lib.cell?_alloc_some o c6
 clear hk hok he hx hxa ho;go_enter Tryz.func39,Tryz.ntmps39;go_wp2_with fail;clear a6 c6;have HWW:=PS3.start w pe x;have z0: ((w.alloc (Obj.cells #[Value.pointer (some ⟨pe,0,none⟩)] 77)).alloc (Obj.cells #[Value.int .i64 0,Value.int .i64 0,Value.int .i64 0] 145)).cell? ⟨g,off+p*12+2,none⟩=some (.int .i64 x.a):=Lib.cell?_alloc_some _ (Lib.cell?_alloc_some _ x2);have z1: ((w.alloc (Obj.cells #[Value.pointer (some ⟨pe,0,none⟩)] 77)).alloc (Obj.cells #[Value.int .i64 0,Value.int .i64 0,Value.int .i64 0] 145)).cell? ⟨g,off+p*12+3,none⟩=some (.int .i64 x.b):=Lib.cell?_alloc_some _ (Lib.cell?_alloc_some _ x3);have z2: ((w.alloc (Obj.cells #[Value.pointer (some ⟨pe,0,none⟩)] 77)).alloc (Obj.cells #[Value.int .i64 0,Value.int .i64 0,Value.int .i64 0] 145)).cell? ⟨g,off+p*12+4,none⟩=some (.int .i64 x.c):=Lib.cell?_alloc_some _ (Lib.cell?_alloc_some _ x4);have hsz: ((w.alloc (Obj.cells #[Value.pointer (some ⟨pe,0,none⟩)] 77)).alloc (Obj.cells #[Value.int .i64 0,Value.int .i64 0,Value.int .i64 0] 145)).heap.size=w.heap.size+2:=by simp
 generalize (w.alloc (Obj.cells #[Value.pointer (some ⟨pe,0,none⟩)] 77)).alloc (Obj.cells #[Value.int .i64 0,Value.int .i64 0,Value.int .i64 0] 145)=W2 at z0 z1 z2 hsz HWW ⊢;clear x2 x3 x4;have HPS:=Lib.hid HWW;clear HWW;have y0:∀o,(W2.alloc o).cell? ⟨g,off+p*12+2,none⟩=some (.int .i64 x.a):=fun o=>Lib.cell?_alloc_some o z0
 have y1:∀o,(W2.alloc o).cell? ⟨g,off+p*12+3,none⟩=some (.int .i64 x.b):=fun o=>Lib.cell?_alloc_some o z1
 have y2:∀o,(W2.alloc o).cell? ⟨g,off+p*12+4,none⟩=some (.int .i64 x.c):=fun o=>Lib.cell?_alloc_some o z2
 go_region
 clear y0 y1 y2 z0 z1 z2;generalize (W2.alloc (Obj.cells #[Value.int .i64 x.a,Value.int .i64 x.b,Value.int .i64 x.c] 146)).drew=W3 at HPS ⊢;clear hsz;have x0:=(HXA.out W3 HPS.out.bel).c0;have xe:W3.cell? ⟨w.heap.size,0,none⟩=some (.pointer (some ⟨pe,0,none⟩)):=HPS.out.ce;have HK3:=Lib.hid (HK.out.below HPS.out.bel);have HPA:=Lib.hid (partC 0 W3 (by omega) HK.out HE.out HPS.out HA.out.1 HA.out.2);rw [show part3 0 x=x.a from rfl] at HPA;obtain ⟨⟨v,er⟩,hev⟩:∃q,ev x.a=q:=⟨_,rfl⟩;rw [hev] at HPA HV;simp only at HPA HV;clear hev;have HOP:Hid (∀W,PS3 w pe x (put3 0 v (0,0,0)) W→W.cell? ⟨g,off+p*12,none⟩=some (.int .i64 x.op)∧W.cell? ⟨w.heap.size+1,0,none⟩=some (.int .i64 v)):=Lib.hid fun W hp=>⟨(HXA.out W hp.bel).c0,hp.c0⟩
 have hcs:x.op=3∨x.op=4∨x.op=5:=by omega
 clear hop;rcases hcs with e | e | e
 all_goals (
  rw [e] at x0 HV HOP;go_wp2_with fail;refine HPA.out.mono ?_;rintro e W4 ⟨rfl,hp4⟩;have HP4:=Lib.hid hp4;clear hp4 x0 xe;by_cases h0:er=0
  · have hd0: (er != 0)=false:=by rw [bne_eq_false_iff_eq];exact h0
    subst h0;obtain ⟨x0,c0⟩:=HOP.out W4 HP4.out;go_wp2_with fail
    go_region_law (
     go_simp;go_at_call 64;refine (val.one_any _ v W4.drew).mono ?_;rintro e W5 ⟨rfl,hb5⟩;have HP5:=Lib.hid ((HP4.out.below (Below.refl _ _).drew).below hb5);clear hb5)
    all_goals (
     clear x0 c0;go_wp2_with fail;go_ret2;exact ⟨ret2 (by rw [HV.out,if_neg (by simp)]) (by rw [HV.out,if_neg (by simp)]),HP5.out.bel⟩)
  · have hd0: (er != 0)=true:=by rw [bne_iff_ne];exact h0
    have HR:Hid (evalB E ev x= (0,er)):=Lib.hid (by rw [HV.out,if_pos h0]);go_wp2_with fail;go_ret2;exact ⟨ret2 (by rw [HR.out]) (by rw [HR.out]),HP4.out.bel⟩)
set_option maxHeartbeats 4000000 in
set_option maxRecDepth 100000 in
theorem eval_cho {B pe:Nat} {h:MH} {hs:SH} {ao:Option Addr} {ac:Nat} {E:EnvD} {ev:Int→Int × Int} {p:Nat} {x:ExprD} (w:World) (hk:Ek B w pe h hs ao ac E) (hok:Ok E) (he:EvC B pe h hs ao ac E ev p) (hx:E.m.exprs[p]? =some x) (hop:22≤x.op∧x.op≤24) (ha:0≤x.a∧x.a < p) (hb:0≤x.b∧x.b < p) (hc:x.op=24→0≤x.c∧x.c < p):
 Calls Tryz.prog 39 #[.pointer (some ⟨pe,0,none⟩),.int .i64 p] w fun e w'=>e= .returned (.tuple #[.int .i64 (evalB E ev x).1,.int .i64 (evalB E ev x).2])∧Below w.heap.size w w':=by
 have HK:=Lib.hid hk;have HO:=Lib.hid hok;have HE:=Lib.hid he;have HXG:=Lib.hid hx;have HV:=Lib.hid (evalB_cho (E:=E) (ev:=ev) hop);have HA:=Lib.hid ha;clear ha;have HBB:=Lib.hid hb;clear hb;have HCC:=Lib.hid hc;clear hc;have c6:=hk.ck.c6;have hel:=hk.ck.md.exprs.1;obtain ⟨g,off,ho,hg,hxa⟩:=hk.ck.md.exprs.get hx;have hpl:p < E.m.exprs.length:=(List.getElem?_eq_some_iff.1 hx).1;have hpi: (p:Int) < E.m.exprs.length:=by omega
 have hp0: (0:Int)≤p:=by omega
 rw [ho] at c6;have x2:=hxa.c2;have x3:=hxa.c3;have x4:=hxa.c4;have hB:B≤w.heap.size:=hk.leW;have HXA:=Lib.hid (fun W (hb:Below w.heap.size w W)=>exprAt.below (hb.mono hB) hg hxa);have a6:∀o,(w.alloc o).cell? ⟨pe,6,none⟩=some (.slice (some ⟨g,off,none⟩) E.m.exprs.length h.ec):=fun o=>Lib.cell?_alloc_some o c6
 clear hk hok he hx hxa ho;go_enter Tryz.func39,Tryz.ntmps39;go_wp2_with fail;clear a6 c6;have HWW:=PS3.start w pe x;have z0: ((w.alloc (Obj.cells #[Value.pointer (some ⟨pe,0,none⟩)] 77)).alloc (Obj.cells #[Value.int .i64 0,Value.int .i64 0,Value.int .i64 0] 145)).cell? ⟨g,off+p*12+2,none⟩=some (.int .i64 x.a):=Lib.cell?_alloc_some _ (Lib.cell?_alloc_some _ x2);have z1: ((w.alloc (Obj.cells #[Value.pointer (some ⟨pe,0,none⟩)] 77)).alloc (Obj.cells #[Value.int .i64 0,Value.int .i64 0,Value.int .i64 0] 145)).cell? ⟨g,off+p*12+3,none⟩=some (.int .i64 x.b):=Lib.cell?_alloc_some _ (Lib.cell?_alloc_some _ x3);have z2: ((w.alloc (Obj.cells #[Value.pointer (some ⟨pe,0,none⟩)] 77)).alloc (Obj.cells #[Value.int .i64 0,Value.int .i64 0,Value.int .i64 0] 145)).cell? ⟨g,off+p*12+4,none⟩=some (.int .i64 x.c):=Lib.cell?_alloc_some _ (Lib.cell?_alloc_some _ x4);have hsz: ((w.alloc (Obj.cells #[Value.pointer (some ⟨pe,0,none⟩)] 77)).alloc (Obj.cells #[Value.int .i64 0,Value.int .i64 0,Value.int .i64 0] 145)).heap.size=w.heap.size+2:=by simp
 generalize (w.alloc (Obj.cells #[Value.pointer (some ⟨pe,0,none⟩)] 77)).alloc (Obj.cells #[Value.int .i64 0,Value.int .i64 0,Value.int .i64 0] 145)=W2 at z0 z1 z2 hsz HWW ⊢;clear x2 x3 x4;have HPS:=Lib.hid HWW;clear HWW;have y0:∀o,(W2.alloc o).cell? ⟨g,off+p*12+2,none⟩=some (.int .i64 x.a):=fun o=>Lib.cell?_alloc_some o z0
 have y1:∀o,(W2.alloc o).cell? ⟨g,off+p*12+3,none⟩=some (.int .i64 x.b):=fun o=>Lib.cell?_alloc_some o z1
 have y2:∀o,(W2.alloc o).cell? ⟨g,off+p*12+4,none⟩=some (.int .i64 x.c):=fun o=>Lib.cell?_alloc_some o z2
 go_region
 clear y0 y1 y2 z0 z1 z2;generalize (W2.alloc (Obj.cells #[Value.int .i64 x.a,Value.int .i64 x.b,Value.int .i64 x.c] 146)).drew=W3 at HPS ⊢;clear hsz;have x0:=(HXA.out W3 HPS.out.bel).c0;have xe:W3.cell? ⟨w.heap.size,0,none⟩=some (.pointer (some ⟨pe,0,none⟩)):=HPS.out.ce;have HK3:=Lib.hid (HK.out.below HPS.out.bel);have HC:=Lib.hid (chosenC W3 HK.out HE.out HPS.out hop HA.out HBB.out HCC.out);have hcs:x.op=22∨x.op=23∨x.op=24:=by omega
 clear hop;unfold partV at HC;rcases hcs with e | e | e
 all_goals (
  rw [e] at x0 HC;go_wp2_with fail;refine HC.out.mono ?_;rintro e W4 ⟨rfl,hb4⟩;have HB4:=Lib.hid hb4;clear hb4 x0 xe HC;go_wp2_with fail;go_ret2;exact ⟨ret2 (by rw [HV.out]) (by rw [HV.out]),HB4.out⟩)
end Go.Proofs.YthfldokfnjpkmaaGreatDoor
namespace Go.Proofs.YthfldokfnjpkmaaGreatDoor
open Go.ChangeShapes Go.WideShapes Go.ChangeAt Go.RowKit
set_option maxHeartbeats 4000000 in
set_option maxRecDepth 100000 in
theorem eval_roo {B pe:Nat} {h:MH} {hs:SH} {ao:Option Addr} {ac:Nat} {E:EnvD} {ev:Int→Int × Int} {p:Nat} {x:ExprD} (w:World) (hk:Ek B w pe h hs ao ac E) (hok:Ok E) (he:EvC B pe h hs ao ac E ev p) (hx:E.m.exprs[p]? =some x) (hop:25≤x.op∧x.op≤29) (ha:0≤x.a∧x.a < p):
 Calls Tryz.prog 39 #[.pointer (some ⟨pe,0,none⟩),.int .i64 p] w fun e w'=>e= .returned (.tuple #[.int .i64 (evalB E ev x).1,.int .i64 (evalB E ev x).2])∧Below w.heap.size w w':=by
 have HK:=Lib.hid hk;have HO:=Lib.hid hok;have HE:=Lib.hid he;have HXG:=Lib.hid hx;have HV:=Lib.hid (evalB_roo (E:=E) (ev:=ev) hop);have HA:=Lib.hid ha;clear ha;have c6:=hk.ck.c6;have hel:=hk.ck.md.exprs.1;obtain ⟨g,off,ho,hg,hxa⟩:=hk.ck.md.exprs.get hx;have hpl:p < E.m.exprs.length:=(List.getElem?_eq_some_iff.1 hx).1;have hpi: (p:Int) < E.m.exprs.length:=by omega
 have hp0: (0:Int)≤p:=by omega
 rw [ho] at c6;have x2:=hxa.c2;have x3:=hxa.c3;have x4:=hxa.c4;have hB:B≤w.heap.size:=hk.leW;have HXA:=Lib.hid (fun W (hb:Below w.heap.size w W)=>exprAt.below (hb.mono hB) hg hxa);have a6:∀o,(w.alloc o).cell? ⟨pe,6,none⟩=some (.slice (some ⟨g,off,none⟩) E.m.exprs.length h.ec):=fun o=>Lib.cell?_alloc_some o c6
 clear hk hok he hx hxa ho;go_enter Tryz.func39,Tryz.ntmps39;go_wp2_with fail;clear a6 c6;have HWW:=PS3.start w pe x;have z0: ((w.alloc (Obj.cells #[Value.pointer (some ⟨pe,0,none⟩)] 77)).alloc (Obj.cells #[Value.int .i64 0,Value.int .i64 0,Value.int .i64 0] 145)).cell? ⟨g,off+p*12+2,none⟩=some (.int .i64 x.a):=Lib.cell?_alloc_some _ (Lib.cell?_alloc_some _ x2);have z1: ((w.alloc (Obj.cells #[Value.pointer (some ⟨pe,0,none⟩)] 77)).alloc (Obj.cells #[Value.int .i64 0,Value.int .i64 0,Value.int .i64 0] 145)).cell? ⟨g,off+p*12+3,none⟩=some (.int .i64 x.b):=Lib.cell?_alloc_some _ (Lib.cell?_alloc_some _ x3);have z2: ((w.alloc (Obj.cells #[Value.pointer (some ⟨pe,0,none⟩)] 77)).alloc (Obj.cells #[Value.int .i64 0,Value.int .i64 0,Value.int .i64 0] 145)).cell? ⟨g,off+p*12+4,none⟩=some (.int .i64 x.c):=Lib.cell?_alloc_some _ (Lib.cell?_alloc_some _ x4);have hsz: ((w.alloc (Obj.cells #[Value.pointer (some ⟨pe,0,none⟩)] 77)).alloc (Obj.cells #[Value.int .i64 0,Value.int .i64 0,Value.int .i64 0] 145)).heap.size=w.heap.size+2:=by simp
 generalize (w.alloc (Obj.cells #[Value.pointer (some ⟨pe,0,none⟩)] 77)).alloc (Obj.cells #[Value.int .i64 0,Value.int .i64 0,Value.int .i64 0] 145)=W2 at z0 z1 z2 hsz HWW ⊢;clear x2 x3 x4;have HPS:=Lib.hid HWW;clear HWW;have y0:∀o,(W2.alloc o).cell? ⟨g,off+p*12+2,none⟩=some (.int .i64 x.a):=fun o=>Lib.cell?_alloc_some o z0
 have y1:∀o,(W2.alloc o).cell? ⟨g,off+p*12+3,none⟩=some (.int .i64 x.b):=fun o=>Lib.cell?_alloc_some o z1
 have y2:∀o,(W2.alloc o).cell? ⟨g,off+p*12+4,none⟩=some (.int .i64 x.c):=fun o=>Lib.cell?_alloc_some o z2
 go_region
 clear y0 y1 y2 z0 z1 z2;generalize (W2.alloc (Obj.cells #[Value.int .i64 x.a,Value.int .i64 x.b,Value.int .i64 x.c] 146)).drew=W3 at HPS ⊢;clear hsz;have x0:=(HXA.out W3 HPS.out.bel).c0;have xe:W3.cell? ⟨w.heap.size,0,none⟩=some (.pointer (some ⟨pe,0,none⟩)):=HPS.out.ce;have HK3:=Lib.hid (HK.out.below HPS.out.bel);have HC:=Lib.hid (roomC W3 HK3.out HO.out HE.out (HXA.out W3 HPS.out.bel) hg hop HA.out.1 HA.out.2);have hcs:x.op=25∨x.op=26∨x.op=27∨x.op=28∨x.op=29:=by omega
 clear hop;rcases hcs with e | e | e | e | e
 all_goals (
  rw [e] at x0;go_wp2_with fail;refine HC.out.mono ?_;rintro e W4 ⟨rfl,hb4⟩;have HB4:=Lib.hid (HPS.out.bel.trans (hb4.mono HPS.out.bel.size));clear hb4 x0 xe HC;go_wp2_with fail;go_ret2;exact ⟨ret2 (by rw [HV.out]) (by rw [HV.out]),HB4.out⟩)
set_option maxHeartbeats 4000000 in
set_option maxRecDepth 100000 in
theorem eval_pol {B pe:Nat} {h:MH} {hs:SH} {ao:Option Addr} {ac:Nat} {E:EnvD} {ev:Int→Int × Int} {p:Nat} {x:ExprD} (w:World) (hk:Ek B w pe h hs ao ac E) (hok:Ok E) (he:EvC B pe h hs ao ac E ev p) (hx:E.m.exprs[p]? =some x) (hop:x.op=30) (ha:0≤x.a∧x.a < p) (hn:x.args.length≤8) (hm:x.mat.length=x.args.length) (hin:∀q ∈ x.args,0≤q∧q < p):
 Calls Tryz.prog 39 #[.pointer (some ⟨pe,0,none⟩),.int .i64 p] w fun e w'=>e= .returned (.tuple #[.int .i64 (evalB E ev x).1,.int .i64 (evalB E ev x).2])∧Below w.heap.size w w':=by
 have HK:=Lib.hid hk;have HO:=Lib.hid hok;have HE:=Lib.hid he;have HXG:=Lib.hid hx;have HV:=Lib.hid (evalB_pol (E:=E) (ev:=ev) hop);have HA:=Lib.hid ha;clear ha;have HN:=Lib.hid (And.intro hn hm);have HIN:=Lib.hid hin;clear hn hm hin;have c6:=hk.ck.c6;have hel:=hk.ck.md.exprs.1;obtain ⟨g,off,ho,hg,hxa⟩:=hk.ck.md.exprs.get hx;have hpl:p < E.m.exprs.length:=(List.getElem?_eq_some_iff.1 hx).1;have hpi: (p:Int) < E.m.exprs.length:=by omega
 have hp0: (0:Int)≤p:=by omega
 rw [ho] at c6;have x2:=hxa.c2;have x3:=hxa.c3;have x4:=hxa.c4;have hB:B≤w.heap.size:=hk.leW;have HXA:=Lib.hid (fun W (hb:Below w.heap.size w W)=>exprAt.below (hb.mono hB) hg hxa);have a6:∀o,(w.alloc o).cell? ⟨pe,6,none⟩=some (.slice (some ⟨g,off,none⟩) E.m.exprs.length h.ec):=fun o=>Lib.cell?_alloc_some o c6
 clear hk hok he hx hxa ho;go_enter Tryz.func39,Tryz.ntmps39;go_wp2_with fail;clear a6 c6;have HWW:=PS3.start w pe x;have z0: ((w.alloc (Obj.cells #[Value.pointer (some ⟨pe,0,none⟩)] 77)).alloc (Obj.cells #[Value.int .i64 0,Value.int .i64 0,Value.int .i64 0] 145)).cell? ⟨g,off+p*12+2,none⟩=some (.int .i64 x.a):=Lib.cell?_alloc_some _ (Lib.cell?_alloc_some _ x2);have z1: ((w.alloc (Obj.cells #[Value.pointer (some ⟨pe,0,none⟩)] 77)).alloc (Obj.cells #[Value.int .i64 0,Value.int .i64 0,Value.int .i64 0] 145)).cell? ⟨g,off+p*12+3,none⟩=some (.int .i64 x.b):=Lib.cell?_alloc_some _ (Lib.cell?_alloc_some _ x3);have z2: ((w.alloc (Obj.cells #[Value.pointer (some ⟨pe,0,none⟩)] 77)).alloc (Obj.cells #[Value.int .i64 0,Value.int .i64 0,Value.int .i64 0] 145)).cell? ⟨g,off+p*12+4,none⟩=some (.int .i64 x.c):=Lib.cell?_alloc_some _ (Lib.cell?_alloc_some _ x4);have hsz: ((w.alloc (Obj.cells #[Value.pointer (some ⟨pe,0,none⟩)] 77)).alloc (Obj.cells #[Value.int .i64 0,Value.int .i64 0,Value.int .i64 0] 145)).heap.size=w.heap.size+2:=by simp
 generalize (w.alloc (Obj.cells #[Value.pointer (some ⟨pe,0,none⟩)] 77)).alloc (Obj.cells #[Value.int .i64 0,Value.int .i64 0,Value.int .i64 0] 145)=W2 at z0 z1 z2 hsz HWW ⊢;clear x2 x3 x4;have HPS:=Lib.hid HWW;clear HWW;have y0:∀o,(W2.alloc o).cell? ⟨g,off+p*12+2,none⟩=some (.int .i64 x.a):=fun o=>Lib.cell?_alloc_some o z0
 have y1:∀o,(W2.alloc o).cell? ⟨g,off+p*12+3,none⟩=some (.int .i64 x.b):=fun o=>Lib.cell?_alloc_some o z1
 have y2:∀o,(W2.alloc o).cell? ⟨g,off+p*12+4,none⟩=some (.int .i64 x.c):=fun o=>Lib.cell?_alloc_some o z2
 go_region
 clear y0 y1 y2 z0 z1 z2;generalize (W2.alloc (Obj.cells #[Value.int .i64 x.a,Value.int .i64 x.b,Value.int .i64 x.c] 146)).drew=W3 at HPS ⊢;clear hsz;have x0:=(HXA.out W3 HPS.out.bel).c0;have xe:W3.cell? ⟨w.heap.size,0,none⟩=some (.pointer (some ⟨pe,0,none⟩)):=HPS.out.ce;have HK3:=Lib.hid (HK.out.below HPS.out.bel);rw [hop] at x0;have HC:=Lib.hid (pollC W3 HK3.out HO.out HE.out (HXA.out W3 HPS.out.bel) hg HA.out.1 HA.out.2 HN.out.1 HN.out.2 HIN.out);go_wp2_with fail;refine HC.out.mono ?_;rintro e W4 ⟨rfl,hb4⟩;have HB4:=Lib.hid (HPS.out.bel.trans (hb4.mono HPS.out.bel.size));clear hb4 x0 xe HC;go_wp2_with fail;go_ret2;exact ⟨ret2 (by rw [HV.out]) (by rw [HV.out]),HB4.out⟩
end Go.Proofs.YthfldokfnjpkmaaGreatDoor
namespace Go.Proofs.YthfldokfnjpkmaaGreatDoor
open Go.ChangeShapes Go.WideShapes Go.ChangeAt Go.RowKit
set_option maxHeartbeats 2000000 in
set_option maxRecDepth 100000 in
theorem askedC {B pe g a:Nat} {h:MH} {hs:SH} {ao:Option Addr} {ac:Nat} {E:EnvD} {x:ExprD} (who:Int) (w:World) (hk:Ek B w pe h hs ao ac E) (hok:Ok E) (hx:exprAt B w g a x) (hg:g < B) (hop:36≤x.op∧x.op≤38):
 Calls Tryz.prog 69 #[.pointer (some ⟨pe,0,none⟩),.pointer (some ⟨g,a,none⟩),.int .i64 who] w fun e w'=>e= .returned (.tuple #[.int .i64 (askedB E x who).1,.int .i64 (askedB E x who).2])∧Below w.heap.size w w':=by
 have HK:=Lib.hid hk;have HO:=Lib.hid hok;have x0:=hx.c0;have x1:=hx.c1;obtain ⟨xo,xc,x6,hxa⟩:=hx.args;have HXA:=Lib.hid hxa;have hxl:=hxa.1;have c9:=hk.sk.c2;have c15:=hk.c15;have hpl:=hk.sk.sd.procs.1;have hal:=hk.able.1;have hgw:g < w.heap.size:=by have:=hk.leW;omega
 clear hk hok hx hxa;by_cases h36:x.op=36
 · rw [h36] at x0;have HV:Hid (askedB E x who= (truthI (decide (0≤who∧who < E.able.length) && E.able.getD who.toNat false),0)):=Lib.hid (by unfold askedB;rw [if_pos h36]);clear h36 hop;by_cases h1:0≤who
   · have hd1:decide (0≤who)=true:=decide_eq_true h1;by_cases h2:who < E.able.length
     · obtain ⟨k,rfl⟩:∃k:Nat,who=k:=⟨who.toNat,by omega⟩;have hd2:decide ((k:Int) < (E.able.length:Int))=true:=decide_eq_true h2;have hkl:k < E.able.length:=by omega
       obtain ⟨g1,off1,ho1,hg1,e1⟩:=HK.out.able.cell hkl;obtain ⟨b,hb⟩:∃q,E.able[k]=q:=⟨_,rfl⟩;rw [hb] at e1;unfold boolAt at e1;rw [Nat.mul_one] at e1;have HZ:Hid (askedB E x k= (truthI b,0)):=Lib.hid (by rw [HV.out,decide_eq_true ⟨h1,h2⟩,Int.toNat_natCast,List.getD_eq_getElem?_getD,List.getElem?_eq_getElem hkl,hb];rfl);subst ho1;clear hb HV;go_enter Tryz.func69,Tryz.ntmps69;go_wp2_with fail;refine (truthC b w).mono ?_;rintro e W1 ⟨rfl,rfl⟩;go_wp2_with fail;go_ret2;exact ⟨ret2 (by rw [HZ.out]) (by rw [HZ.out]),Below.refl _ _⟩
     · have hd2:decide (who < (E.able.length:Int))=false:=decide_eq_false h2;have HZ:Hid (askedB E x who= (0,0)):=Lib.hid (by rw [HV.out,decide_eq_false (fun h=>h2 h.2)];rfl);clear HV;go_enter Tryz.func69,Tryz.ntmps69;go_wp2_with fail;refine (truthC false w).mono ?_;rintro e W1 ⟨rfl,rfl⟩;go_wp2_with fail;go_ret2;exact ⟨ret2 (by rw [HZ.out];rfl) (by rw [HZ.out]),Below.refl _ _⟩
   · have hd1:decide (0≤who)=false:=decide_eq_false h1;have HZ:Hid (askedB E x who= (0,0)):=Lib.hid (by rw [HV.out,decide_eq_false (fun h=>h1 h.1)];rfl);clear HV;go_enter Tryz.func69,Tryz.ntmps69;go_wp2_with fail;refine (truthC false w).mono ?_;rintro e W1 ⟨rfl,rfl⟩;go_wp2_with fail;go_ret2;exact ⟨ret2 (by rw [HZ.out];rfl) (by rw [HZ.out]),Below.refl _ _⟩
 · have hq: (x.op == 36)=false:=by rw [beq_eq_false_iff_ne];exact h36
   by_cases h1:who < 0
   · have hd1:decide (who < 0)=true:=decide_eq_true h1;have HZ:Hid (askedB E x who= (0,52)):=Lib.hid (by unfold askedB;rw [if_neg h36,if_pos h1]);go_enter Tryz.func69,Tryz.ntmps69;go_wp2_with fail;go_ret2;exact ⟨ret2 (by rw [HZ.out]) (by rw [HZ.out]),Below.refl _ _⟩
   · have hd1:decide (who < 0)=false:=decide_eq_false h1;obtain ⟨k,rfl⟩:∃k:Nat,who=k:=⟨who.toNat,by omega⟩;by_cases h2: (E.s.procs.length:Int)≤ (k:Int)
     · have hd2:decide ((E.s.procs.length:Int)≤ (k:Int))=true:=decide_eq_true h2;have HZ:Hid (askedB E x k= (0,52)):=Lib.hid (by unfold askedB;rw [if_neg h36,if_neg h1,Int.toNat_natCast,List.getElem?_eq_none (by omega)]);go_enter Tryz.func69,Tryz.ntmps69;go_wp2_with fail;go_ret2;exact ⟨ret2 (by rw [HZ.out]) (by rw [HZ.out]),Below.refl _ _⟩
     · have hd2:decide ((E.s.procs.length:Int)≤ (k:Int))=false:=decide_eq_false h2;have hd2n:decide (E.s.procs.length≤k)=false:=decide_eq_false (by omega);have hkl:k < E.s.procs.length:=by omega
       have hki: (k:Int) < E.s.procs.length:=by omega
       have hkz: (0:Int)≤k:=by omega
       obtain ⟨p,hp⟩:∃s,E.s.procs[k]? =some s:=⟨_,List.getElem?_eq_getElem hkl⟩;have HV:Hid (askedB E x k=if x.op=37 then (p.loc,0) else if p.type≠x.n then (0,52) else (truthI (x.args.any (fun q=>decide (q=p.loc))),0)):=Lib.hid (by unfold askedB;rw [if_neg h36,if_neg h1,Int.toNat_natCast,hp]);obtain ⟨g1,off1,ho1,hg1,hpa⟩:=HK.out.sk.sd.procs.get hp;have q0:=hpa.c0;have q1:=hpa.c1;rw [ho1] at c9;have HCE:Hid (∀W,Below w.heap.size w W→W.cell? ⟨pe,9,none⟩=some (.slice (some ⟨g1,off1,none⟩) E.s.procs.length hs.pc)∧W.cell? ⟨g,a,none⟩=some (.int .i64 x.op)∧W.cell? ⟨g,a+1,none⟩=some (.int .i64 x.n)∧W.cell? ⟨g,a+10,none⟩=some (.slice xo x.args.length xc)∧W.cell? ⟨g1,off1+k*4,none⟩=some (.int .i64 p.type)∧W.cell? ⟨g1,off1+k*4+1,none⟩=some (.int .i64 p.loc)∧Row B xo 1 (intAt W) x.args):=Lib.hid fun W hb=>
        ⟨(hb.cell HK.out.ck.lt).trans c9,(hb.cell hgw).trans x0,(hb.cell hgw).trans x1,(hb.cell hgw).trans x6,(hb.cell (by have:=HK.out.leW;show g1 < _;omega)).trans q0,(hb.cell (by have:=HK.out.leW;show g1 < _;omega)).trans q1,HXA.out.mono fun _ _ _ hg=>intAt.below (hb.mono HK.out.leW) hg⟩
       clear hpa ho1 hp h1 h2 hd2n;by_cases h37:x.op=37
       · have hq7: (x.op == 37)=true:=by rw [beq_iff_eq];exact h37
         have HZ:Hid (askedB E x k= (p.loc,0)):=Lib.hid (by rw [HV.out,if_pos h37]);go_enter Tryz.func69,Tryz.ntmps69;go_wp2_with fail;go_ret2;exact ⟨ret2 (by rw [HZ.out]) (by rw [HZ.out]),Below.refl _ _⟩
       · have hq7: (x.op == 37)=false:=by rw [beq_eq_false_iff_ne];exact h37
         by_cases ht:p.type=x.n
         · have hqt: (p.type != x.n)=false:=by rw [bne_eq_false_iff_eq];exact ht
           have HW:Hid (askedB E x k= (truthI (x.args.any (fun q=>decide (q=p.loc))),0)):=Lib.hid (by rw [HV.out,if_neg h37,if_neg (fun h=>h ht)]);clear h36 h37 ht HV hop;go_enter Tryz.func69,Tryz.ntmps69;go_wp2_with fail;go_quiet (fail);have HB0:Hid (Below w.heap.size w (w.drewN nq)):=Lib.hid (bdrew (Below.refl _ _) nq);generalize w.drewN nq=W0 at HB0 ⊢;clear c9 c15 x0 x1 x6 q0 q1 hd1 hd2 hq hq7 hqt;obtain ⟨c9,x0,x1,x6,q0,q1,-⟩:=HCE.out _ HB0.out;go_wp2_with fail;clear c9 x0 x1 x6 q0 q1
           go_loopw [79] (fun iv W=>∃i:Nat,iv= .int .i64 i∧i≤x.args.length∧Hid (∀j (hj:j < x.args.length),j < i→x.args[j]≠p.loc)∧Hid (Below w.heap.size w W)) (fun iv _=>x.args.length - (intOf iv).toNat)
           case atStart=>exact ⟨0,rfl,by omega,Lib.hid fun j _ h=>by omega,HB0⟩
           case round=>
            clear HB0;obtain ⟨i,rfl,hi,HJ,HB⟩:=hrel;have hi0: (0:Int)≤i:=by omega
            by_cases hlt:i < x.args.length
            · have hlti: (i:Int) < x.args.length:=by omega
              obtain ⟨c9,x0,x1,x6,q0,q1,hrw⟩:=HCE.out _ HB.out;obtain ⟨g2,off2,ho2,hg2,e2⟩:=hrw.cell hlt;obtain ⟨v,hv⟩:∃q,x.args[i]=q:=⟨_,rfl⟩;rw [hv] at e2;unfold intAt at e2;rw [Nat.mul_one] at e2;subst ho2;by_cases hvl:v=p.loc
              · have hqv: (v == p.loc)=true:=by rw [beq_iff_eq];exact hvl
                have HZ:Hid (askedB E x k= (1,0)):=Lib.hid (by
                 rw [HW.out,show x.args.any (fun q=>decide (q=p.loc))=true from List.any_eq_true.2 ⟨v,hv ▸ List.getElem_mem hlt,decide_eq_true hvl⟩];rfl)
                clear hvl hv hrw;go_wp2_with fail;go_ret2;exact ⟨ret2 (by rw [HZ.out]) (by rw [HZ.out]),HB.out⟩
              · have hqv: (v == p.loc)=false:=by rw [beq_eq_false_iff_ne];exact hvl
                have HZ:Hid (∀j (hj:j < x.args.length),j < i+1→x.args[j]≠p.loc):=Lib.hid fun j hj hjk=>by
                 by_cases e:j=i
                 · subst e;rw [hv];exact hvl
                 · exact HJ.out j hj (by omega)
                clear hvl hv hrw;go_wp2_with fail;go_roundw;case rel=>exact ⟨i+1,by go_num,by omega,HZ,HB⟩
                case measure=>simp [intOf];omega
            · have hlti:¬ (i:Int) < x.args.length:=by omega
              have HZ:Hid (askedB E x k= (0,0)):=Lib.hid (by
               rw [HW.out,show x.args.any (fun q=>decide (q=p.loc))=false from by
                rw [List.any_eq_false];intro q hq;obtain ⟨j,hj,rfl⟩:=List.getElem_of_mem hq;simpa using HJ.out j hj (by omega)];rfl)
              go_wp2_with fail;go_ret2;exact ⟨ret2 (by rw [HZ.out]) (by rw [HZ.out]),HB.out⟩
         · have hqt: (p.type != x.n)=true:=by rw [bne_iff_ne];exact ht
           have HZ:Hid (askedB E x k= (0,52)):=Lib.hid (by rw [HV.out,if_neg h37,if_pos ht]);clear h36 h37 ht HV hop;go_enter Tryz.func69,Tryz.ntmps69;go_wp2_with fail;go_quiet (fail);go_wp2_with fail;go_ret2;exact ⟨ret2 (by rw [HZ.out]) (by rw [HZ.out]),bdrew (Below.refl _ _) _⟩
end Go.Proofs.YthfldokfnjpkmaaGreatDoor
