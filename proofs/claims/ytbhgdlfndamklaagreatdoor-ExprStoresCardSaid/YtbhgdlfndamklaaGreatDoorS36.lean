/- The document's layer 14: an Env in a box, what Eval promises, and Chan. -/
import Derived.Test.YtbhgdlfndamklaaGreatDoorS24
import Derived.Test.YtbhgdlfndamklaaGreatDoorS20
import Derived.Test.YtbhgdlfndamklaaGreatDoorS27
import Derived.Test.YtbhgdlfndamklaaGreatDoorS16
import Derived.WalkKit
import Derived.ProofKit
import Derived.Below
import Derived.Outline
import Derived.BigQuiet
import Derived.Deep.QuietTactic
import Derived.Test.YtbhgdlfndamklaaGreatDoorS35
import Derived.Test.YtbhgdlfndamklaaGreatDoorS26
set_option linter.unusedVariables false
set_option linter.unusedSimpArgs false
namespace Go.Proofs.YtbhgdlfndamklaaGreatDoor
open Go.ChangeShapes Go.WideShapes Go.ChangeAt Go.RowKit
theorem ED.lift {B B':Nat} {w:World} {h:MH} {hs:SH} {ao:Option Addr} {E:EnvD} (k:ED B w h hs ao E) (hB:B≤B'):ED B' w h hs ao E:=
 ⟨k.md.lift hB,k.sd.lift hB,k.able.lift' hB fun _ _ _ _ h=>h⟩
structure Zs (w:World) (ES:Array Value) (h:MH) (hs:SH) (ao:Option Addr) (ac:Nat) (E:EnvD) (W:World):Prop where
 es:ES=eCells h hs ao ac E
 bx:Bq w w.heap.size ES 36 W
 ed:ED w.heap.size W h hs ao E
section
variable {w W W':World} {ES:Array Value} {h:MH} {hs:SH} {ao:Option Addr} {ac:Nat} {E:EnvD}
theorem Zs.below (k:Zs w ES h hs ao ac E W) (hb:Below W.heap.size W W'):Zs w ES h hs ao ac E W':=⟨k.es,k.bx.below hb,k.ed.below (hb.mono k.bx.bel.size)⟩
theorem Zs.drewN (k:Zs w ES h hs ao ac E W) (n:Nat):Zs w ES h hs ao ac E (W.drewN n):=k.below (bdrew (Below.refl _ _) n)
theorem Zs.new (hd:ED w.heap.size w h hs ao E) (hS:ES=eCells h hs ao ac E):Zs w ES h hs ao ac E (w.alloc (.cells ES 36)):=⟨hS,Bq.new (Below.refl _ _) _ _,hd.below (ball _)⟩
theorem Zs.here (k:Zs w ES h hs ao ac E W):ED W.heap.size W h hs ao E:=k.ed.lift k.bx.bel.size
theorem Zs.info (k:Zs w ES h hs ao ac E W): (Tryz.prog.info? 36).map (·.size)=some ES.size:=by
 rw [k.es];show _=some 16;kernel_rfl
theorem Zs.ek (k:Zs w ES h hs ao ac E W):Ek w.heap.size W w.heap.size h hs ao ac E:=Ek.ofW (T:=36) (by rw [←k.es];exact k.bx.box) k.bx.bel.size k.ed
theorem Zs.cell (k:Zs w ES h hs ao ac E W) {i:Nat} {v:Value} (hv: (eCells h hs ao ac E)[i]? =some v):W.cell? ⟨w.heap.size,i,none⟩=some v:=k.bx.cell (by rw [k.es];exact hv)
end
def EvH (h:MH) (hs:SH) (ao:Option Addr) (ac:Nat) (E:EnvD) (ev:Int→Int × Int) (N:Nat):Prop:=
 ∀ (x:Int) (W:World),0≤x→x < N→ED W.heap.size W h hs ao E→Calls Tryz.prog 9 #[.agg (eCells h hs ao ac E),.int .i64 x] W fun e W'=>e= .returned (.tuple #[.int .i64 (ev x).1,.int .i64 (ev x).2])∧Below W.heap.size W W'
set_option maxRecDepth 100000 in
set_option maxHeartbeats 2000000 in
theorem chan14H {h:MH} {hs:SH} {ao:Option Addr} {ac:Nat} {E:EnvD} {ev:Int→Int × Int} {N:Nat} (x:Int) (w:World) (hd:ED w.heap.size w h hs ao E) (he:EvH h hs ao ac E ev N) (hx0:0≤x) (hx:x < N):
 Calls Tryz.prog 10 #[.agg (eCells h hs ao ac E),.int .i64 x] w fun e w'=>e= .returned (.tuple #[.int .i64 (rchanB E ev x).1,.int .i64 (rchanB E ev x).2])∧Below w.heap.size w w':=by
 have HE:=Lib.hid (fun W hd=>he x W hx0 hx hd);obtain ⟨ES,hES⟩:∃c,c=eCells h hs ao ac E:=⟨_,rfl⟩;have HX:=Lib.hid (Zs.new hd hES);rw [←hES] at HE ⊢;have hcl:=hd.sd.chans.1;clear hd he hES;obtain ⟨⟨v,er⟩,hev⟩:∃q,ev x=q:=⟨_,rfl⟩;rw [hev] at HE;simp only at HE;have HEV:=Lib.hid hev;clear hev;go_enter Tryz.func10,Tryz.ntmps10;go_upto_region 1 with fail
 generalize w.alloc (.cells ES 36)=W0 at HX ⊢;go_wp2_with (refine wpList_load_row rfl _ _ rfl _ rfl _ ES _ _ HX.out.bx.box Tryz.underlying36 rfl HX.out.info ?_);refine (HE.out W0 HX.out.here).mono ?_;rintro e W1 ⟨rfl,hb1⟩;have HX1:=Lib.hid (HX.out.below hb1);have c8:W1.cell? ⟨w.heap.size,8,none⟩=some (.slice hs.co E.s.chans.length hs.cc):=HX1.out.cell rfl;clear hb1 HX HE;by_cases h0:er=0
 · have hd0: (er != 0)=false:=by rw [bne_eq_false_iff_eq];exact h0
   subst h0;by_cases h1:v < 1
   · have hd1:decide (v < 1)=true:=decide_eq_true h1;have HV:Hid (rchanB E ev x= (0,49)):=Lib.hid (by unfold rchanB;rw [HEV.out];simp [h1]);go_wp2_with fail;go_ret2;exact ⟨ret2 (by rw [HV.out]) (by rw [HV.out]),HX1.out.bx.bel⟩
   · have hd1:decide (v < 1)=false:=decide_eq_false h1;by_cases h2: (E.s.chans.length:Int) < v
     · have hd2:decide ((E.s.chans.length:Int) < v)=true:=decide_eq_true h2;have HV:Hid (rchanB E ev x= (0,49)):=Lib.hid (by unfold rchanB;rw [HEV.out];simp [h2]);go_wp2_with fail;go_ret2;exact ⟨ret2 (by rw [HV.out]) (by rw [HV.out]),HX1.out.bx.bel⟩
     · have hd2:decide ((E.s.chans.length:Int) < v)=false:=decide_eq_false h2;have HV:Hid (rchanB E ev x= (v,0)):=Lib.hid (by unfold rchanB;rw [HEV.out];simp [h1,h2]);go_wp2_with fail;go_ret2;exact ⟨ret2 (by rw [HV.out]) (by rw [HV.out]),HX1.out.bx.bel⟩
 · have hd0: (er != 0)=true:=by rw [bne_iff_ne];exact h0
   have HV:Hid (rchanB E ev x= (0,er)):=Lib.hid (by unfold rchanB;rw [HEV.out];simp [h0]);go_wp2_with fail;go_ret2;exact ⟨ret2 (by rw [HV.out]) (by rw [HV.out]),HX1.out.bx.bel⟩
end Go.Proofs.YtbhgdlfndamklaaGreatDoor
namespace Go.Proofs.YtbhgdlfndamklaaGreatDoor
open Go.ChangeShapes Go.WideShapes Go.ChangeAt Go.RowKit
theorem one14H (b:Bool) (w:World):Calls Tryz.prog 26 #[.bool b] w fun e w'=>e= .returned (.int .i64 (truthI b))∧w=w':=by
 go_enter Tryz.func26,Tryz.ntmps26;cases b
 · go_wp2
   all_goals (go_ret;exact ⟨rfl,rfl⟩)
 · go_wp2
   all_goals (go_ret;exact ⟨rfl,rfl⟩)
structure Zx (w:World) (ES XS:Array Value) (h:MH) (hs:SH) (ao:Option Addr) (ac:Nat) (E:EnvD) (W:World):Prop where
 zs:Zs w ES h hs ao ac E W
 xb:Bq w (w.heap.size+1) XS 73 W
section
variable {w W W':World} {ES XS:Array Value} {h:MH} {hs:SH} {ao:Option Addr} {ac:Nat} {E:EnvD}
theorem Zx.below (k:Zx w ES XS h hs ao ac E W) (hb:Below W.heap.size W W'):Zx w ES XS h hs ao ac E W':=⟨k.zs.below hb,k.xb.below hb⟩
theorem Zx.new (hd:ED w.heap.size w h hs ao E) (hS:ES=eCells h hs ao ac E):Zx w ES XS h hs ao ac E ((w.alloc (.cells ES 36)).alloc (.cells XS 73)):=
 ⟨(Zs.new hd hS).below (ball _),new_at (by simp),(Zs.new hd hS).bx.bel.alloc (by simp) _⟩
theorem Zx.cell (k:Zx w ES XS h hs ao ac E W) {i:Nat} {v:Value} (hv:XS[i]? =some v):W.cell? ⟨w.heap.size+1,i,none⟩=some v:=k.xb.cell hv
end
set_option maxRecDepth 100000 in
set_option maxHeartbeats 4000000 in
theorem logic14H {h:MH} {hs:SH} {ao vo ao2 mo:Option Addr} {ac vc ac2 mc:Nat} {E:EnvD} {ev:Int→Int × Int} {N:Nat} (x:ExprD) (w:World) (hd:ED w.heap.size w h hs ao E) (he:EvH h hs ao ac E ev N) (h00:∀i,(ev i).2≠0→ (ev i).1=0) (hop:22≤x.op∧x.op≤24) (ha:0≤x.a∧x.a < N) (hb:0≤x.b∧x.b < N) (hc:x.op=24→0≤x.c∧x.c < N):
 Calls Tryz.prog 24 #[.agg (eCells h hs ao ac E),.agg (xCells x vo ao2 mo vc ac2 mc)] w fun e w'=>e= .returned (.tuple #[.int .i64 (chosenB ev x).1,.int .i64 (chosenB ev x).2])∧Below w.heap.size w w':=by
 have HEA:=Lib.hid (fun W hd=>he x.a W ha.1 ha.2 hd);have HEB:=Lib.hid (fun W hd=>he x.b W hb.1 hb.2 hd);have HEC:=Lib.hid (fun (e24:x.op=24) W hd=>he x.c W (hc e24).1 (hc e24).2 hd);obtain ⟨ES,hES⟩:∃c,c=eCells h hs ao ac E:=⟨_,rfl⟩;obtain ⟨XS,hXS⟩:∃c,c=xCells x vo ao2 mo vc ac2 mc:=⟨_,rfl⟩;have HX:=Lib.hid (Zx.new (XS:=XS) hd hES);have HXS:=Lib.hid hXS;rw [←hES] at HEA HEB HEC ⊢;rw [←hXS];have h0a:=h00 x.a;have h0b:=h00 x.b;have h0c:=h00 x.c;clear hd he hES hXS ha hb hc h00;obtain ⟨⟨v,er⟩,hev⟩:∃q,ev x.a=q:=⟨_,rfl⟩;obtain ⟨⟨v1,er1⟩,hev1⟩:∃q,ev x.b=q:=⟨_,rfl⟩;obtain ⟨⟨v2,er2⟩,hev2⟩:∃q,ev x.c=q:=⟨_,rfl⟩;rw [hev] at HEA h0a;rw [hev1] at HEB h0b;rw [hev2] at HEC h0c;simp only at HEA HEB HEC h0a h0b h0c;have HV:Hid (chosenB ev x=if er≠0 then (0,er) else if x.op=22∧v=0 then (0,0) else if x.op=23∧v≠0 then (1,0) else if x.op=24∧v=0 then (v2,er2) else if x.op=24 then (v1,er1) else if er1≠0 then (0,er1) else (truthI (v1 != 0),0)):=Lib.hid (by
  unfold chosenB;rw [hev,hev1,hev2];simp only;clear HEA HEB HEC HX HXS hev hev1 hev2;rcases (by omega:x.op=22∨x.op=23∨x.op=24) with e | e | e <;> rw [e] <;> by_cases z:er=0 <;> by_cases z0:v=0 <;> by_cases z1:er1=0 <;> by_cases z2:er2=0 <;> by_cases z3:v1=0 <;> simp_all [truthI])
 clear hev hev1 hev2 h0a h0b h0c;obtain ⟨R,hR⟩:∃R,chosenB ev x=R:=⟨_,rfl⟩;rw [hR] at HV ⊢;have hop2:x.op=22∨x.op=23∨x.op=24:=by omega
 obtain ⟨op,ho⟩:∃o,x.op=o:=⟨_,rfl⟩;rw [ho] at HV HEC hop2;have HO:=Lib.hid ho;clear hop hR ho;go_enter Tryz.func24,Tryz.ntmps24;go_upto_region 1 with fail
 generalize (w.alloc (.cells ES 36)).alloc (.cells XS 73)=W0 at HX ⊢;have x2:W0.cell? ⟨w.heap.size+1,2,none⟩=some (.int .i64 x.a):=HX.out.cell (by rw [HXS.out];rfl);go_wp2_with (refine wpList_load_row rfl _ _ rfl _ rfl _ ES _ _ HX.out.zs.bx.box Tryz.underlying36 rfl HX.out.zs.info ?_);refine (HEA.out W0 HX.out.zs.here).mono ?_;rintro e W1 ⟨rfl,hb1⟩;have HX1:=Lib.hid (HX.out.below hb1);clear hb1 HX HEA x2;have x0:W1.cell? ⟨w.heap.size+1,0,none⟩=some (.int .i64 op):=HX1.out.cell (by rw [HXS.out,←HO.out];rfl);have x3:W1.cell? ⟨w.heap.size+1,3,none⟩=some (.int .i64 x.b):=HX1.out.cell (by rw [HXS.out];rfl);have x4:W1.cell? ⟨w.heap.size+1,4,none⟩=some (.int .i64 x.c):=HX1.out.cell (by rw [HXS.out];rfl);by_cases z:er=0;rotate_left
 · have HE:Hid (R= (0,er)):=Lib.hid (by rw [HV.out,if_pos z]);have d: (er != 0)=true:=by rw [bne_iff_ne];exact z
   clear z;go_wp2_with fail;go_ret2;exact ⟨ret2 (by rw [HE.out]) (by rw [HE.out]),HX1.out.zs.bx.bel⟩
 have d: (er != 0)=false:=by rw [bne_eq_false_iff_eq];exact z
 subst z;rcases hop2 with rfl | rfl | rfl
 · by_cases z0:v=0
   · have HE:Hid (R= (0,0)):=Lib.hid (by rw [HV.out];simp [z0]);have d0: (v == 0)=true:=by rw [beq_iff_eq];exact z0
     have d1: (v != 0)=false:=by rw [bne_eq_false_iff_eq];exact z0
     clear z0;go_wp2_with fail;go_ret2;exact ⟨ret2 (by rw [HE.out]) (by rw [HE.out]),HX1.out.zs.bx.bel⟩
   have HE:Hid (R=if er1≠0 then (0,er1) else (truthI (v1 != 0),0)):=Lib.hid (by rw [HV.out];simp [z0]);have d0: (v == 0)=false:=by rw [beq_eq_false_iff_ne];exact z0
   have d1: (v != 0)=true:=by rw [bne_iff_ne];exact z0
   clear z0;go_wp2_with (refine wpList_load_row rfl _ _ rfl _ rfl _ ES _ _ HX1.out.zs.bx.box Tryz.underlying36 rfl HX1.out.zs.info ?_);refine (HEB.out W1 HX1.out.zs.here).mono ?_;rintro e W2 ⟨rfl,hb2⟩;have HX2:=Lib.hid (HX1.out.below hb2);clear hb2 HX1 HEB x0 x3 x4;by_cases z1:er1=0
   · have HE2:Hid (R= (truthI (v1 != 0),0)):=Lib.hid (by rw [HE.out,if_neg (by simpa using z1)]);have d2: (er1 != 0)=false:=by rw [bne_eq_false_iff_eq];exact z1
     clear z1;go_wp2_with fail;refine (one14H (v1 != 0) W2).mono ?_;rintro e W3 ⟨rfl,rfl⟩;go_wp2_with fail;go_ret2;exact ⟨ret2 (by rw [HE2.out]) (by rw [HE2.out]),HX2.out.zs.bx.bel⟩
   · have HE2:Hid (R= (0,er1)):=Lib.hid (by rw [HE.out,if_pos z1]);have d2: (er1 != 0)=true:=by rw [bne_iff_ne];exact z1
     clear z1;go_wp2_with fail;go_ret2;exact ⟨ret2 (by rw [HE2.out]) (by rw [HE2.out]),HX2.out.zs.bx.bel⟩
 · by_cases z0:v=0;rotate_left
   · have HE:Hid (R= (1,0)):=Lib.hid (by rw [HV.out];simp [z0]);have d0: (v == 0)=false:=by rw [beq_eq_false_iff_ne];exact z0
     have d1: (v != 0)=true:=by rw [bne_iff_ne];exact z0
     clear z0;go_wp2_with fail;go_ret2;exact ⟨ret2 (by rw [HE.out]) (by rw [HE.out]),HX1.out.zs.bx.bel⟩
   have HE:Hid (R=if er1≠0 then (0,er1) else (truthI (v1 != 0),0)):=Lib.hid (by rw [HV.out];simp [z0]);have d0: (v == 0)=true:=by rw [beq_iff_eq];exact z0
   have d1: (v != 0)=false:=by rw [bne_eq_false_iff_eq];exact z0
   clear z0;go_wp2_with (refine wpList_load_row rfl _ _ rfl _ rfl _ ES _ _ HX1.out.zs.bx.box Tryz.underlying36 rfl HX1.out.zs.info ?_);refine (HEB.out W1 HX1.out.zs.here).mono ?_;rintro e W2 ⟨rfl,hb2⟩;have HX2:=Lib.hid (HX1.out.below hb2);clear hb2 HX1 HEB x0 x3 x4;by_cases z1:er1=0
   · have HE2:Hid (R= (truthI (v1 != 0),0)):=Lib.hid (by rw [HE.out,if_neg (by simpa using z1)]);have d2: (er1 != 0)=false:=by rw [bne_eq_false_iff_eq];exact z1
     clear z1;go_wp2_with fail;refine (one14H (v1 != 0) W2).mono ?_;rintro e W3 ⟨rfl,rfl⟩;go_wp2_with fail;go_ret2;exact ⟨ret2 (by rw [HE2.out]) (by rw [HE2.out]),HX2.out.zs.bx.bel⟩
   · have HE2:Hid (R= (0,er1)):=Lib.hid (by rw [HE.out,if_pos z1]);have d2: (er1 != 0)=true:=by rw [bne_iff_ne];exact z1
     clear z1;go_wp2_with fail;go_ret2;exact ⟨ret2 (by rw [HE2.out]) (by rw [HE2.out]),HX2.out.zs.bx.bel⟩
 · by_cases z0:v=0
   · have HE:Hid (R= (v2,er2)):=Lib.hid (by rw [HV.out];simp [z0]);have d0: (v == 0)=true:=by rw [beq_iff_eq];exact z0
     have d1: (v != 0)=false:=by rw [bne_eq_false_iff_eq];exact z0
     clear z0;go_wp2_with (refine wpList_load_row rfl _ _ rfl _ rfl _ ES _ _ HX1.out.zs.bx.box Tryz.underlying36 rfl HX1.out.zs.info ?_);refine (HEC.out (by first | rfl | trivial) W1 HX1.out.zs.here).mono ?_;rintro e W2 ⟨rfl,hb2⟩;have HX2:=Lib.hid (HX1.out.below hb2);clear hb2 HX1 x0 x3 x4;go_wp2_with fail;go_ret2;exact ⟨ret2 (by rw [HE.out]) (by rw [HE.out]),HX2.out.zs.bx.bel⟩
   · have HE:Hid (R= (v1,er1)):=Lib.hid (by rw [HV.out];simp [z0]);have d0: (v == 0)=false:=by rw [beq_eq_false_iff_ne];exact z0
     have d1: (v != 0)=true:=by rw [bne_iff_ne];exact z0
     clear z0;go_wp2_with (refine wpList_load_row rfl _ _ rfl _ rfl _ ES _ _ HX1.out.zs.bx.box Tryz.underlying36 rfl HX1.out.zs.info ?_);refine (HEB.out W1 HX1.out.zs.here).mono ?_;rintro e W2 ⟨rfl,hb2⟩;have HX2:=Lib.hid (HX1.out.below hb2);clear hb2 HX1 x0 x3 x4;go_wp2_with fail;go_ret2;exact ⟨ret2 (by rw [HE.out]) (by rw [HE.out]),HX2.out.zs.bx.bel⟩
end Go.Proofs.YtbhgdlfndamklaaGreatDoor
namespace Go.Proofs.YtbhgdlfndamklaaGreatDoor
open Go.ChangeShapes Go.WideShapes Go.ChangeAt Go.RowKit
set_option maxRecDepth 100000 in
set_option maxHeartbeats 1500000 in
theorem asksR14H {h:MH} {hs:SH} {ao vo ao2 mo:Option Addr} {ac vc ac2 mc:Nat} {E:EnvD} {ev:Int→Int × Int} {N:Nat} (x:ExprD) (w:World) (hok:Ok E) (hd:ED w.heap.size w h hs ao E) (he:EvH h hs ao ac E ev N) (hop:25≤x.op∧x.op≤29) (ha:0≤x.a∧x.a < N):
 Calls Tryz.prog 25 #[.agg (eCells h hs ao ac E),.agg (xCells x vo ao2 mo vc ac2 mc)] w fun e w'=>e= .returned (.tuple #[.int .i64 (rroomB E ev x).1,.int .i64 (rroomB E ev x).2])∧Below w.heap.size w w':=by
 have HEA:=Lib.hid (fun W hd=>chan14H x.a W hd he ha.1 ha.2);obtain ⟨ES,hES⟩:∃c,c=eCells h hs ao ac E:=⟨_,rfl⟩;obtain ⟨XS,hXS⟩:∃c,c=xCells x vo ao2 mo vc ac2 mc:=⟨_,rfl⟩;have HX:=Lib.hid (Zx.new (XS:=XS) hd hES);have HXS:=Lib.hid hXS;have HO:=Lib.hid hok;rw [←hES] at HEA ⊢;rw [←hXS];clear hd he hES hXS ha hok;obtain ⟨⟨v,er⟩,hev⟩:∃q,rchanB E ev x.a=q:=⟨_,rfl⟩;rw [hev] at HEA;simp only at HEA;have HV0:Hid (rroomB E ev x=if er≠0 then (0,er) else (roomOp x.op (chanNo E v).queue.length (shapeNo E (chanNo E v)).room,0)):=Lib.hid (by unfold rroomB;rw [hev]);have HK:Hid (er=0→∃k:Nat,v= (k:Int)+1∧k < E.s.chans.length):=Lib.hid fun h0=>by
  obtain ⟨k,hk1,hkl⟩:=rchan_ok (E:=E) (ev:=ev) (a:=x.a) (by rw [hev];exact h0);rw [hev] at hk1;exact ⟨k,hk1,hkl⟩
 clear hev;obtain ⟨R,hR⟩:∃R,rroomB E ev x=R:=⟨_,rfl⟩;rw [hR] at HV0 ⊢;clear hR;go_enter Tryz.func25,Tryz.ntmps25;go_upto_region 1 with fail
 generalize (w.alloc (.cells ES 36)).alloc (.cells XS 73)=W0 at HX ⊢;have x2:W0.cell? ⟨w.heap.size+1,2,none⟩=some (.int .i64 x.a):=HX.out.cell (by rw [HXS.out];rfl);go_wp2_with (refine wpList_load_row rfl _ _ rfl _ rfl _ ES _ _ HX.out.zs.bx.box Tryz.underlying36 rfl HX.out.zs.info ?_);refine (HEA.out W0 HX.out.zs.here).mono ?_;rintro e W1 ⟨rfl,hb1⟩;have HX1:=Lib.hid (HX.out.below hb1);clear hb1 HX HEA x2;by_cases z:er=0;rotate_left
 · have HE:Hid (R= (0,er)):=Lib.hid (by rw [HV0.out,if_pos z]);have d: (er != 0)=true:=by rw [bne_iff_ne];exact z
   clear z;go_wp2_with fail;go_ret2;exact ⟨ret2 (by rw [HE.out]) (by rw [HE.out]),HX1.out.zs.bx.bel⟩
 have d: (er != 0)=false:=by rw [bne_eq_false_iff_eq];exact z
 subst z;obtain ⟨k,hk1,hkl⟩:=HK.out rfl;subst hk1;obtain ⟨c,hc⟩:∃s,E.s.chans[k]? =some s:=⟨_,List.getElem?_eq_getElem hkl⟩;obtain ⟨s,hs2,hs0,hs1⟩:=may_chan HO.out hc;obtain ⟨ks,hks⟩:∃q:Nat,c.shape=q:=⟨c.shape.toNat,by omega⟩;have HV:Hid (R= (roomOp x.op c.queue.length s.room,0)):=Lib.hid (by rw [HV0.out,if_neg (by simp),chanNo_get hc,shapeNo_get hs2]);rw [hks,Int.toNat_natCast] at hs2;have hksl: (ks:Int) < E.m.shapes.length:=by omega
 have hks0: (0:Int)≤ks:=by omega
 have hkz: (0:Int)≤ (k:Int)+1 - 1:=by omega
 have hki: (k:Int)+1 - 1 < E.s.chans.length:=by omega
 have hke: (k:Int)+1 - 1=k:=by omega
 obtain ⟨g1,off1,ho1,hg1,hca⟩:=HX1.out.zs.ed.sd.chans.get hc;have hcl:=HX1.out.zs.ed.sd.chans.1;have e8:W1.cell? ⟨w.heap.size,8,none⟩=some (.slice hs.co E.s.chans.length hs.cc):=HX1.out.zs.cell rfl;rw [ho1] at e8;have q0:=hca.c0;rw [hks] at q0;obtain ⟨qo,qc,q1,hq⟩:=hca.queue;have hql:=hq.1;have HX2:=Lib.hid (HX1.out.below (ball (.cells #[.int .i64 ks,.slice qo c.queue.length qc] 91)));have HB2:Hid ((W1.alloc (.cells #[.int .i64 ks,.slice qo c.queue.length qc] 91)).heap[W1.heap.size]? =some (.cells #[.int .i64 ks,.slice qo c.queue.length qc] 91 (0,0))):=Lib.hid (heap_alloc_new W1 _);have HS2:=Lib.hid hs2;clear hq hca ho1 hs2 hs0 hs1 hks hc HK HV0 hg1;go_upto_region 5 with fail
 generalize W1.alloc (.cells #[.int .i64 ks,.slice qo c.queue.length qc] 91)=W2 at HX2 HB2 ⊢;obtain ⟨T,hT⟩:∃T,W1.heap.size=T:=⟨_,rfl⟩;rw [hT] at HB2 ⊢;clear e8 q0 q1 HX1 hkz hki hke hT;obtain ⟨g2,off2,ho2,hg2,hsa⟩:=HX2.out.zs.ed.md.shapes.get HS2.out;have hsl:=HX2.out.zs.ed.md.shapes.1;have e2:W2.cell? ⟨w.heap.size,2,none⟩=some (.slice h.so E.m.shapes.length h.sc):=HX2.out.zs.cell rfl;rw [ho2] at e2;have y0:W2.cell? ⟨T,0,none⟩=some (.int .i64 ks):=(cell_of_row _ _ _ _ _ _ HB2.out).trans rfl;have r0:=hsa.c0;obtain ⟨fo,fc,r1,hf⟩:=hsa.fields;have hfl:=hf.1;have HX3:=Lib.hid (HX2.out.below (ball (.cells #[.int .i64 s.room,.slice fo s.fields.length fc] 117)));have HB3:Hid ((W2.alloc (.cells #[.int .i64 s.room,.slice fo s.fields.length fc] 117)).heap[T]? =some (.cells #[.int .i64 ks,.slice qo c.queue.length qc] 91 (0,0))):=Lib.hid (((ball (w:=W2) (.cells #[.int .i64 s.room,.slice fo s.fields.length fc] 117)).block _ (lt_of_block HB2.out)).trans HB2.out);have HS3:Hid ((W2.alloc (.cells #[.int .i64 s.room,.slice fo s.fields.length fc] 117)).heap[W2.heap.size]? =some (.cells #[.int .i64 s.room,.slice fo s.fields.length fc] 117 (0,0))):=Lib.hid (heap_alloc_new W2 _);clear hf hsa ho2 hg2 HB2 HS2;go_upto_region 6 with fail
 generalize W2.alloc (.cells #[.int .i64 s.room,.slice fo s.fields.length fc] 117)=W3 at HX3 HB3 HS3 ⊢;obtain ⟨T2,hT2⟩:∃T,W2.heap.size=T:=⟨_,rfl⟩;rw [hT2] at HS3 ⊢;clear e2 y0 r0 r1 HX2 hT2;have y1:W3.cell? ⟨T,1,none⟩=some (.slice qo c.queue.length qc):=(cell_of_row _ _ _ _ _ _ HB3.out).trans rfl;have r0:W3.cell? ⟨T2,0,none⟩=some (.int .i64 s.room):=(cell_of_row _ _ _ _ _ _ HS3.out).trans rfl;have x0:W3.cell? ⟨w.heap.size+1,0,none⟩=some (.int .i64 x.op):=HX3.out.cell (by rw [HXS.out];rfl);have hcs:x.op=25∨x.op=26∨x.op=27∨x.op=28∨x.op=29:=by omega
 clear hop;rcases hcs with e | e | e | e | e
 · rw [e] at x0 HV;go_wp2_with fail;go_ret2;exact ⟨ret2 (by rw [HV.out];rfl) (by rw [HV.out]),HX3.out.zs.bx.bel⟩
 · rw [e] at x0 HV;obtain ⟨b,hb⟩:∃b,decide (s.room≤ (c.queue.length:Int))=b:=⟨_,rfl⟩;have HZ:Hid (R= (truthI b,0)):=Lib.hid (by rw [HV.out,←hb];rfl);cases b
   · go_wp2_with fail;refine (one14H false W3).mono ?_;rintro e W4 ⟨rfl,rfl⟩;go_wp2_with fail;go_ret2;exact ⟨ret2 (by rw [HZ.out]) (by rw [HZ.out]),HX3.out.zs.bx.bel⟩
   · go_wp2_with fail;refine (one14H true W3).mono ?_;rintro e W4 ⟨rfl,rfl⟩;go_wp2_with fail;go_ret2;exact ⟨ret2 (by rw [HZ.out]) (by rw [HZ.out]),HX3.out.zs.bx.bel⟩
 · rw [e] at x0 HV;obtain ⟨b,hb⟩:∃b,decide (c.queue.length=0)=b:=⟨_,rfl⟩;have HZ:Hid (R= (truthI b,0)):=Lib.hid (by rw [HV.out,←hb];unfold roomOp;simp);have hb2: ((c.queue.length:Int) == 0)=b:=by rw [←hb,Bool.eq_iff_iff,beq_iff_eq,decide_eq_true_eq];omega
   have hb3: (c.queue.length == 0)=b:=by rw [←hb,Bool.eq_iff_iff,beq_iff_eq,decide_eq_true_eq]
   cases b
   · go_wp2_with fail;refine (one14H false W3).mono ?_;rintro e W4 ⟨rfl,rfl⟩;go_wp2_with fail;go_ret2;exact ⟨ret2 (by rw [HZ.out]) (by rw [HZ.out]),HX3.out.zs.bx.bel⟩
   · go_wp2_with fail;refine (one14H true W3).mono ?_;rintro e W4 ⟨rfl,rfl⟩;go_wp2_with fail;go_ret2;exact ⟨ret2 (by rw [HZ.out]) (by rw [HZ.out]),HX3.out.zs.bx.bel⟩
 · rw [e] at x0 HV;obtain ⟨b,hb⟩:∃b,decide ((c.queue.length:Int) < s.room)=b:=⟨_,rfl⟩;have HZ:Hid (R= (truthI b,0)):=Lib.hid (by rw [HV.out,←hb];rw [show decide ((c.queue.length:Int) < s.room)= !decide (s.room≤ (c.queue.length:Int)) from by rw [Bool.eq_iff_iff];simp];rfl);cases b
   · go_wp2_with fail;refine (one14H false W3).mono ?_;rintro e W4 ⟨rfl,rfl⟩;go_wp2_with fail;go_ret2;exact ⟨ret2 (by rw [HZ.out]) (by rw [HZ.out]),HX3.out.zs.bx.bel⟩
   · go_wp2_with fail;refine (one14H true W3).mono ?_;rintro e W4 ⟨rfl,rfl⟩;go_wp2_with fail;go_ret2;exact ⟨ret2 (by rw [HZ.out]) (by rw [HZ.out]),HX3.out.zs.bx.bel⟩
 · rw [e] at x0 HV;obtain ⟨b,hb⟩:∃b,decide (0 < (c.queue.length:Int))=b:=⟨_,rfl⟩;have HZ:Hid (R= (truthI b,0)):=Lib.hid (by rw [HV.out,←hb];rw [show decide (0 < (c.queue.length:Int))= !decide ((c.queue.length:Int)=0) from by rw [Bool.eq_iff_iff,decide_eq_true_eq,Bool.not_eq_true',decide_eq_false_iff_not];omega];rfl);have hb2:decide (0 < c.queue.length)=b:=by rw [←hb,Bool.eq_iff_iff,decide_eq_true_eq,decide_eq_true_eq];omega
   cases b
   · go_wp2_with fail;refine (one14H false W3).mono ?_;rintro e W4 ⟨rfl,rfl⟩;go_wp2_with fail;go_ret2;exact ⟨ret2 (by rw [HZ.out]) (by rw [HZ.out]),HX3.out.zs.bx.bel⟩
   · go_wp2_with fail;refine (one14H true W3).mono ?_;rintro e W4 ⟨rfl,rfl⟩;go_wp2_with fail;go_ret2;exact ⟨ret2 (by rw [HZ.out]) (by rw [HZ.out]),HX3.out.zs.bx.bel⟩
end Go.Proofs.YtbhgdlfndamklaaGreatDoor
namespace Go.Proofs.YtbhgdlfndamklaaGreatDoor
open Go.ChangeShapes Go.WideShapes Go.ChangeAt Go.RowKit
theorem wp_region_kept {P:Program} {id:Nat} {Q:Exit→Act→World→Prop} {a:Act} {w:World} {l:List Oper} (hm:P.follows .mixedOrders=true) (hB:Region.lexB .any l.toArray=true)
 (h:∀ (ι:Type) (_:Nonempty ι) (f:ι→World),(∀n,Below w.heap.size w (f n))→ (∀n w',Below (f n).heap.size (f n) w'→∃m,w'=f m)→
   wpQuiet P l.toArray (fun w'=>∃n,w'=f n) (fun a'=>∀w',Below w.heap.size w w'→Q .normal a' w') l a): (Code.region id l.toArray true).wp P Q a w:=by
 refine wp_region_quiet (C:=fun w'=>∃n: { x // Below w.heap.size w x },w'=n.1) hm hB ⟨⟨_,(Below.refl _ _).drew⟩,rfl⟩ ?_;have h1:=h { x // Below w.heap.size w x } ⟨⟨w,Below.refl _ _⟩⟩ (fun n=>n.1) (fun n=>n.2) (fun n w' hw=>⟨⟨w',n.2.trans (hw.mono n.2.size)⟩,rfl⟩);have e: (fun a'=>∀w',Below w.heap.size w w'→Q .normal a' w')= (fun a'=>∀w',(∃n: { x // Below w.heap.size w x },w'=n.1)→Q .normal a' w'):=by
  funext a'
  apply propext;constructor
  · rintro g w' ⟨n,rfl⟩;exact g _ n.2
  · intro g w' hw;exact g w' ⟨⟨w',hw⟩,rfl⟩
 rw [e] at h1;simpa using h1
theorem kept_of {P:Program} {F:FuncId} {args:Array Value} {v:Value} {ι:Type} {f:ι→World} (hcl:∀n w',Below (f n).heap.size (f n) w'→∃m,w'=f m) (n:ι)
 (h:Calls P F args (f n) fun e w'=>e= .returned v∧Below (f n).heap.size (f n) w'):Calls P F args (f n) fun e w'=>e= .returned v∧∃m,w'=f m:=
 h.mono fun _ _ ⟨he,hb⟩=>⟨he,hcl n _ hb⟩
end Go.Proofs.YtbhgdlfndamklaaGreatDoor
namespace Go.Proofs.YtbhgdlfndamklaaGreatDoor
open Go.ChangeShapes Go.WideShapes Go.ChangeAt Go.RowKit
theorem held.info_int64: (Tryz.prog.info? 2).map (fun i=>(i.zero,i.size,i.bytes))=some (some (.int .i64 0),1,8):=by kernel_rfl
theorem one_int64 (W:World) (x:Int):∀j u',(iCells [x])[j]? =some u'→ (W.alloc (.cells #[.int .i64 x] 2)).cell? ((⟨W.heap.size,0,none⟩:Addr).add j)=some u':=by
 intro j u' hj
 match j,hj with
 | 0,hj=>simp [iCells] at hj;subst hj;exact (cell_of_row _ _ 0 _ _ _ (heap_alloc_new W _)).trans rfl
 | j+1,hj=>simp [iCells] at hj
structure WH (w0:World) (ES:Array Value) (h:MH) (hs:SH) (ao:Option Addr) (ac:Nat) (E:EnvD) (v:Value) (l:List Int) (W:World):Prop where
 own:W.ownsRow (w0.heap.size+1) 2 1 v l.length (iCells l)
 zs:Zs w0 ES h hs ao ac E W
section
variable {w0 W W1:World} {ES:Array Value} {h:MH} {hs:SH} {ao:Option Addr} {ac:Nat} {E:EnvD} {v v1:Value} {l m:List Int} {o:Obj}
theorem WH.base (k:WH w0 ES h hs ao ac E v l W):w0.heap.size+1≤W.heap.size:=lt_of_block k.zs.bx.box
theorem WH.below (k:WH w0 ES h hs ao ac E v l W) (hb:Below W.heap.size W W1):WH w0 ES h hs ao ac E v l W1:=⟨owns_below k.own hb,k.zs.below hb⟩
theorem WH.put (k:WH w0 ES h hs ao ac E v l W) (hg: (W.alloc o).grownBy W1 v.ownBlock) (ho:W1.ownsRow (w0.heap.size+1) 2 1 v1 (l.length+m.length) (iCells l ++ iCells m)):WH w0 ES h hs ao ac E v1 (l ++ m) W1:=by
 have hb:=k.base;have hB:Below w0.heap.size w0 W1:=(k.zs.bx.bel.alloc k.zs.bx.bel.size _).grown hg (by simp;omega) (fun k' hk=>by have:=(k.own.lt k' hk).1;omega);have hB2:Below w0.heap.size W W1:=((Below.refl _ _).alloc k.zs.bx.bel.size _).grown hg (by simp;omega) (fun k' hk=>by have:=(k.own.lt k' hk).1;omega);refine ⟨by rw [List.length_append,iCells_app];exact ho,k.zs.es,⟨?_,hB⟩,k.zs.ed.below hB2⟩;rw [hg.block w0.heap.size (by simp;omega) (fun e=>by have:=(k.own.lt _ e.symm).1;omega)];exact ((ball o).block _ hb).trans k.zs.bx.box
end
structure WantH (r:List Int × Int) (w:World) (e:Ending) (w':World):Prop where
 bel:Below w.heap.size w w'
 no:r.2≠0→e= .returned (.tuple #[.slice none 0 0,.int .i64 r.2])
 yes:r.2=0→∃o c,e= .returned (.tuple #[.slice o r.1.length c,.int .i64 0])∧Row w'.heap.size o 1 (intAt w') r.1
theorem WH.done {w0 W:World} {ES:Array Value} {h:MH} {hs:SH} {ao:Option Addr} {ac:Nat} {E:EnvD} {v:Value} {l:List Int} {r:List Int × Int} (k:WH w0 ES h hs ao ac E v l W) (hle:l.length≤8) (he:r= (l,0)):WantH r w0 (.returned (.tuple #[v,.int .i64 0])) W:=by
 subst he;refine ⟨k.zs.bx.bel,fun h=>absurd rfl h,fun _=> ?_⟩;rcases k.own.2 with ⟨rfl,hl⟩ | ⟨g,cap,cur,rfl,hb,hg,hc,hm,hs,ht⟩
 · have :l= []:=List.eq_nil_of_length_eq_zero hl;subst this;exact ⟨none,0,rfl,Row.nil _ _ _ _⟩
 · refine ⟨some ⟨g,0,none⟩,cap,rfl,⟨by show l.length≤_;omega,.inr ⟨g,0,rfl,lt_of_block hg,fun i hi=> ?_⟩⟩⟩;have h2:=k.own.cells (g:=g) rfl i (.int .i64 l[i]) (by simp [iCells,hi]);rw [held.add_off] at h2;unfold intAt;rw [show 0+i*1=0+i by omega];exact h2
theorem quiet_load_row {P:Program} {C:World→Prop} {a:Act} {o:Oper} {K:Act→Prop} (ty:TypeId) (x:Operand) (ho:o.op= .load ty x) (g:Nat) (hx:a.eval x= .pointer (some ⟨g,0,none⟩)) (cs:Array Value) (t:TypeId) (fr:Nat × Nat)
 (hg:∀w,C w→w.heap[g]? =some (.cells cs t fr)) (d:TypeDesc) (hu:P.underlying ty=some d) (hd: (match d with | .struct _ | .array _ _=>true | _=>false)=true) (hi: (P.info? ty).map (·.size)=some cs.size) (a':Act) (ha:a'=a.put o.dst (.agg cs)) (hk:K a'):o.quiet P a C K:=
 ⟨_,fun w hw=>by
   unfold Oper.quietAt execOp;simp only [ho,hx,Instr.loadAt,Instr.sureAddr,Sem.run_bind,Sem.run_pure,Result.andThen_ok,run_loadVar_row w g t ty cs fr d (hg w hw) hu hd hi];exact ⟨rfl,rfl⟩,ha ▸ hk⟩
set_option maxRecDepth 100000 in
set_option maxHeartbeats 2000000 in
theorem wants14H {h:MH} {hs:SH} {ao:Option Addr} {ac:Nat} {E:EnvD} {ev:Int→Int × Int} {N:Nat} (args mat:List Int) (o1 o2:Option Addr) (p1 p2:Nat) (w:World) (hd:ED w.heap.size w h hs ao E) (he:EvH h hs ao ac E ev N) (h1:Row w.heap.size o1 1 (intAt w) args) (h2:Row w.heap.size o2 1 (intAt w) mat) (hn:args.length≤8) (hm:mat.length=args.length) (hin:∀x ∈ args,0≤x∧x < N):
 Calls Tryz.prog 52 #[.agg (eCells h hs ao ac E),.slice o1 args.length p1,.slice o2 mat.length p2] w (WantH (wantedF ev (args.zip mat)) w):=by
 obtain ⟨i0,hi,hz0,hz1,hz2⟩:=held.info_parts held.info_int64;have HI:=Lib.hid (And.intro hi (And.intro hz0 (And.intro hz1 hz2)));have HEV:=Lib.hid he;have HR:=Lib.hid (And.intro h1 h2);have HIN:=Lib.hid hin;have l1:=h1.1;have l2:=h2.1;have HZL:Hid ((args.zip mat).length=args.length):=Lib.hid (by rw [List.length_zip];omega);have HN:=Lib.hid (And.intro hn hm);obtain ⟨ES,hES⟩:∃c,c=eCells h hs ao ac E:=⟨_,rfl⟩;have HX0:=Lib.hid (Zs.new hd hES);have HES:=Lib.hid hES;rw [←hES];clear hd he h1 h2 hin hi hz0 hz1 hz2 hES;have hml:mat.length≤8:=by omega
 go_enter Tryz.func52,Tryz.ntmps52;go_upto_region 1 with fail
 have HB0:Hid (Below w.heap.size w (w.alloc (.cells ES 36))):=Lib.hid (ball _);have HJ0:Hid (WH w ES h hs ao ac E (.slice none 0 0) [] (w.alloc (.cells ES 36))):=Lib.hid ⟨World.ownsRow_nil _ _ _ _,HX0.out⟩;generalize w.alloc (.cells ES 36)=W0 at HJ0 HB0 ⊢;clear HX0 hm hn;go_wp2_with fail
 go_loopw [8,9] (fun ov iv W=>∃ (i:Nat) (l:List Int),iv= .int .i64 i∧i≤args.length∧Hid (l= ((args.zip mat).take i).map (wantG ev))∧Hid (∀j (hj:j < (args.zip mat).length),j < i→ (args.zip mat)[j].2=1→ (ev (args.zip mat)[j].1).2=0)∧Hid (WH w ES h hs ao ac E ov l W)) (fun _ iv _=>args.length - (intOf iv).toNat)
 case atStart=>exact ⟨0,[],rfl,by omega,Lib.hid rfl,Lib.hid fun j _ h=>by omega,HJ0⟩
 case round=>
  clear HJ0 HB0;obtain ⟨i,l,rfl,hi,HL,HK,HJ⟩:=hrel;have hi0: (0:Int)≤i:=by omega
  by_cases hlt:i < args.length
  · have hlti: (i:Int) < args.length:=by omega
    have hlt2:i < mat.length:=by have:=HN.out.2;omega
    have hlti2: (i:Int) < mat.length:=by omega
    obtain ⟨g1,off1,ho1,hg1,e1⟩:=(HR.out.1.mono fun _ _ _ hg=>intAt.below HJ.out.zs.bx.bel hg).cell hlt;obtain ⟨g2,off2,ho2,hg2,e2⟩:=(HR.out.2.mono fun _ _ _ hg=>intAt.below HJ.out.zs.bx.bel hg).cell hlt2;subst ho1 ho2;obtain ⟨x,hx⟩:∃q,args[i]=q:=⟨_,rfl⟩;obtain ⟨m,hm⟩:∃q,mat[i]=q:=⟨_,rfl⟩;have hzl:i < (args.zip mat).length:=by rw [HZL.out];exact hlt
    have HZ:Hid ((args.zip mat)[i]= (x,m)):=Lib.hid (by rw [←hx,←hm];simp);have hxr:=HIN.out x (hx ▸ List.getElem_mem hlt);rw [hx] at e1;rw [hm] at e2;unfold intAt at e1 e2;rw [Nat.mul_one] at e1 e2;have HLL:Hid (l.length=i):=Lib.hid (by rw [HL.out,List.length_map,List.length_take];omega);have HLS:Hid (∀v:Int,wantG ev (x,m)=v→l ++ [v]= ((args.zip mat).take (i+1)).map (wantG ev)):=Lib.hid fun v hv=>by rw [HL.out,List.take_succ_eq_append_getElem hzl,List.map_append,HZ.out,List.map_cons,List.map_nil,hv]
    have HKS:Hid ((m=1→ (ev x).2=0)→∀j (hj:j < (args.zip mat).length),j < i+1→ (args.zip mat)[j].2=1→ (ev (args.zip mat)[j].1).2=0):=Lib.hid fun hv j hj hji h=>by
     by_cases e:j=i
     · subst e;rw [HZ.out] at h ⊢;exact hv h
     · exact HK.out j hj (by omega) h
    have HBAD:Hid (m=1→ (ev x).2≠0→wantedF ev (args.zip mat)= ([],(ev x).2)):=Lib.hid fun h1 h2=>by
     have:=wanted_bad hzl HK.out (by rw [HZ.out];exact h1) (by rw [HZ.out];exact h2);rw [HZ.out] at this;exact this
    have HLM:Hid (l.length≤8):=Lib.hid (by have:=HLL.out;have:=HN.out.1;omega);clear hx hm;by_cases hm1:m=1
    · have hq: (m == 1)=true:=by rw [beq_iff_eq];exact hm1
      have HM1:=Lib.hid hm1;have HEC:Hid (∀W,Below wr.heap.size wr W→Calls Tryz.prog 9 #[.agg ES,.int .i64 x] W fun e W'=>e= .returned (.tuple #[.int .i64 (ev x).1,.int .i64 (ev x).2])∧Below W.heap.size W W'):=Lib.hid fun W hb=>by
       have:=HEV.out x W hxr.1 hxr.2 (HJ.out.zs.below hb).here;rw [←HES.out] at this;exact this
      obtain ⟨⟨v,er⟩,hev⟩:∃q,ev x=q:=⟨_,rfl⟩;rw [hev] at HEC;simp only at HEC;have HEQ:=Lib.hid hev;clear hm1 hev;go_upto_region 7 with fail
      refine wp_region_kept (by kernel_rfl) (by kernel_rfl) (fun ι hne f hf hcl=> ?_);have HZE:Hid (∀W,(∃n,W=f n)→W.heap[w.heap.size]? =some (.cells ES 36 (0,0))):=Lib.hid fun W ⟨n,hn⟩=>by rw [hn];exact (HJ.out.zs.below (hf n)).bx.box
      have HINF:Hid ((Tryz.prog.info? 36).map (·.size)=some ES.size):=Lib.hid HJ.out.zs.info;have z1:∀n,(f n).cell? ⟨g1,off1+i,none⟩=some (.int .i64 x):=fun n=>((hf n).cell (p:=⟨g1,off1+i,none⟩) (Nat.lt_of_lt_of_le hg1 HJ.out.zs.bx.bel.size)).trans e1
      have HA:=Lib.hid (fun n=>HEC.out _ (hf n));have HF:=Lib.hid hcl;clear hcl hf e1 e2 HEC
      repeat (first | go_big_quiet_skip | (go_big_quiet_want;first | (refine quiet_load_row 36 _ rfl w.heap.size rfl ES 36 (0,0) HZE.out _ Tryz.underlying36 rfl HINF.out _ rfl ?_;go_simp;go_big_quiet_on) | (go_big_quiet_op;first | go_big_quiet_on | go_big_quiet_call ((go_at_call 9;with_reducible exact kept_of HF.out _ (HA.out _))))))
      refine wpQuiet_nil ?_;intro W1 hb1;have HJ1:=Lib.hid (HJ.out.below hb1);clear hb1 z1 HZE HA HF HJ;by_cases h0:er=0
      · have hd0: (er != 0)=false:=by rw [bne_eq_false_iff_eq];exact h0
        have HS1:=Lib.hid (HLS.out v (by unfold wantG;rw [if_pos HM1.out,HEQ.out]));have HS2:=Lib.hid (HKS.out (fun _=>by rw [HEQ.out];exact h0));clear h0;go_wp2_with (at_builtin;refine wpList_append_own _ rfl _ _ 23 rfl (w.heap.size+1) 2 i0 (.int .i64 0) 1 8 Tryz.underlying23 HI.out.1 HI.out.2.1 HI.out.2.2.1 HI.out.2.2.2 rfl (by decide) _ l.length (iCells l) rfl (HJ1.out.own.alloc _) ⟨W1.heap.size,0,none⟩ 1 1 (iCells [v]) rfl rfl (one_int64 _ _) (iCells_one [v]) (by unfold maxLen;have:=HLM.out;(try simp);omega) (by have:=HLM.out;(try simp);omega) (by simp;have:=HJ1.out.base;omega) ?_);intro v1 w1 hown hgrow _;have HJ2:Hid (WH w ES h hs ao ac E v1 (l ++ [v]) w1):=Lib.hid (HJ1.out.put hgrow hown);clear hown hgrow HJ1;go_wp2_with fail;go_roundw;case rel=>exact ⟨i+1,l ++ [v],by go_num,by omega,HS1,HS2,HJ2⟩
        case measure=>simp [intOf];omega
      · have hd0: (er != 0)=true:=by rw [bne_iff_ne];exact h0
        have HZ2:=Lib.hid (HBAD.out HM1.out (by rw [HEQ.out];exact h0));have H0:=Lib.hid h0;clear h0;go_wp2_with fail;go_ret2;refine ⟨HJ1.out.zs.bx.bel,fun _=>by rw [HZ2.out,HEQ.out];rfl,fun h=> ?_⟩;rw [HZ2.out,HEQ.out] at h;exact absurd h H0.out
    · have hq: (m == 1)=false:=by rw [beq_eq_false_iff_ne];exact hm1
      have HS1:=Lib.hid (HLS.out 0 (by unfold wantG;rw [if_neg hm1]));have HS2:=Lib.hid (HKS.out (fun h=>absurd h hm1));clear hm1;go_wp2_with (at_builtin;refine wpList_append_own _ rfl _ _ 23 rfl (w.heap.size+1) 2 i0 (.int .i64 0) 1 8 Tryz.underlying23 HI.out.1 HI.out.2.1 HI.out.2.2.1 HI.out.2.2.2 rfl (by decide) _ l.length (iCells l) rfl (HJ.out.own.alloc _) ⟨wr.heap.size,0,none⟩ 1 1 (iCells [0]) rfl rfl (one_int64 _ _) (iCells_one [0]) (by unfold maxLen;have:=HLM.out;(try simp);omega) (by have:=HLM.out;(try simp);omega) (by simp;have:=HJ.out.base;omega) ?_);intro v1 w1 hown hgrow _;have HJ2:Hid (WH w ES h hs ao ac E v1 (l ++ [0]) w1):=Lib.hid (HJ.out.put hgrow hown);clear hown hgrow HJ;go_wp2_with fail;go_roundw;case rel=>exact ⟨i+1,l ++ [0],by go_num,by omega,HS1,HS2,HJ2⟩
      case measure=>simp [intOf];omega
  · have hlti:¬ (i:Int) < args.length:=by omega
    have hie:i=args.length:=by omega
    have HV:Hid (wantedF ev (args.zip mat)= (l,0)):=Lib.hid (by
     rw [wanted_ok fun j hj h=>HK.out j hj (by have:=HZL.out;omega) h,HL.out,hie,←HZL.out,List.take_length])
    have HLM:Hid (l.length≤8):=Lib.hid (by rw [HL.out,List.length_map,List.length_take];have:=HN.out.1;omega);clear hie;go_wp2_with fail;go_ret2;exact HJ.out.done HLM.out HV.out
end Go.Proofs.YtbhgdlfndamklaaGreatDoor
