/- Layer 15's example holds. -/
import Derived.Test.YthfldokfnjpkmaaGreatDoorM48
set_option linter.unusedVariables false
set_option linter.unusedSimpArgs false
namespace Go.Proofs.YthfldokfnjpkmaaGreatDoor
open Go.ChangeShapes Go.WideShapes Go.ChangeAt Go.RowKit
theorem xnew_kept {W W1:World} {cs:Array Value} {T:TypeId} (hb:Below (W.alloc (.cells cs T)).heap.size (W.alloc (.cells cs T)) W1):W1.heap[W.heap.size]? =some (.cells cs T (0,0)):=(hb.block _ (by simp)).trans (heap_alloc_new _ _)
theorem xnew_keptD {W W1:World} {cs:Array Value} {T:TypeId} (hb:Below (W.alloc (.cells cs T)).drew.heap.size (W.alloc (.cells cs T)).drew W1):W1.heap[W.heap.size]? =some (.cells cs T (0,0)):=(hb.block _ (by show _ < (W.alloc (.cells cs T)).heap.size;simp)).trans (heap_alloc_new W _)
theorem xsixS {w W:World} {B b:Nat} (h:Below B w W) (hb:B≤b) (v0 v1 v2 v3 v4 v5:Value):Below B w ((((((W.setCell ⟨b,0,none⟩ v0).setCell ⟨b,1,none⟩ v1).setCell ⟨b,2,none⟩ v2).setCell ⟨b,3,none⟩ v3).setCell ⟨b,4,none⟩ v4).setCell ⟨b,5,none⟩ v5):=
 (((((h.setCell hb _).setCell hb _).setCell hb _).setCell hb _).setCell hb _).setCell hb _
theorem xsixB {W:World} {b:Nat} {cs:Array Value} {T:TypeId} (hz:W.heap[b]? =some (.cells cs T (0,0))) (v0 v1 v2 v3 v4 v5:Value): ((((((W.setCell ⟨b,0,none⟩ v0).setCell ⟨b,1,none⟩ v1).setCell ⟨b,2,none⟩ v2).setCell ⟨b,3,none⟩ v3).setCell ⟨b,4,none⟩ v4).setCell ⟨b,5,none⟩ v5).heap[b]? =some (.cells ((((((cs.setIfInBounds 0 v0).setIfInBounds 1 v1).setIfInBounds 2 v2).setIfInBounds 3 v3).setIfInBounds 4 v4).setIfInBounds 5 v5) T (0,0)):=
 heap_setCell_same _ _ _ _ _ _ (heap_setCell_same _ _ _ _ _ _ (heap_setCell_same _ _ _ _ _ _ (heap_setCell_same _ _ _ _ _ _ (heap_setCell_same _ _ _ _ _ _ (heap_setCell_same _ _ _ _ _ _ hz)))))
structure Xb (w:World) (t l p q mb sb eb:Nat) (W:World):Prop where
 xm:Xm W t l p q
 m:W.heap[mb]? =some (.cells (xoM p) 29 (0,0))
 s:W.heap[sb]? =some (.cells (xoS q) 33 (0,0))
 e:W.heap[eb]? =some (.cells (xoE p q) 36 (0,0))
 bel:Below w.heap.size w W
 no:NoneP W
theorem Xb.below {w W W':World} {t l p q mb sb eb:Nat} (k:Xb w t l p q mb sb eb W) (hb:Below W.heap.size W W'):Xb w t l p q mb sb eb W':=
 ⟨k.xm.below hb,(hb.block _ (lt_of_block k.m)).trans k.m,(hb.block _ (lt_of_block k.s)).trans k.s,(hb.block _ (lt_of_block k.e)).trans k.e,k.bel.trans (hb.mono k.bel.size),k.no.below hb⟩
set_option maxRecDepth 100000 in
set_option maxHeartbeats 8000000 in
theorem shownC (w:World) (hno:NoneP w):Calls Tryz.prog 8 #[] w fun e w'=>e= .returned (.bool true)∧Below w.heap.size w w':=by
 have HNO:=Lib.hid hno;clear hno;go_enter Tryz.func8,Tryz.ntmps8;go_upto_region 4 with fail
 have hbl:Below w.heap.size w (allocs w [.cells xoT 67,.cells (xoL w.heap.size) 70,.cells (xoP (w.heap.size+1)) 73,.cells (xoM (w.heap.size+1+1)) 29,.cells xoQ 60,.cells (xoS (w.heap.size+1+1+1+1)) 33,.cells (xoE (w.heap.size+1+1) (w.heap.size+1+1+1+1)) 36]):=allocs_below _ _ _ (Nat.le_refl _);have HX:Hid (Xb w w.heap.size (w.heap.size+1) (w.heap.size+1+1) (w.heap.size+1+1+1+1) (w.heap.size+1+1+1) (w.heap.size+1+1+1+1+1) (w.heap.size+1+1+1+1+1+1) (allocs w [.cells xoT 67,.cells (xoL w.heap.size) 70,.cells (xoP (w.heap.size+1)) 73,.cells (xoM (w.heap.size+1+1)) 29,.cells xoQ 60,.cells (xoS (w.heap.size+1+1+1+1)) 33,.cells (xoE (w.heap.size+1+1) (w.heap.size+1+1+1+1)) 36])):=Lib.hid ⟨⟨allocs_at (k:=0) rfl,allocs_at (k:=1) rfl,allocs_at (k:=2) rfl,allocs_at (k:=4) rfl⟩,allocs_at (k:=3) rfl,allocs_at (k:=5) rfl,allocs_at (k:=6) rfl,hbl,HNO.out.below hbl⟩;change Code.wp _ _ _ _ (allocs w [.cells xoT 67,.cells (xoL w.heap.size) 70,.cells (xoP (w.heap.size+1)) 73,.cells (xoM (w.heap.size+1+1)) 29,.cells xoQ 60,.cells (xoS (w.heap.size+1+1+1+1)) 33,.cells (xoE (w.heap.size+1+1) (w.heap.size+1+1+1+1)) 36]);generalize allocs w [.cells xoT 67,.cells (xoL w.heap.size) 70,.cells (xoP (w.heap.size+1)) 73,.cells (xoM (w.heap.size+1+1)) 29,.cells xoQ 60,.cells (xoS (w.heap.size+1+1+1+1)) 33,.cells (xoE (w.heap.size+1+1) (w.heap.size+1+1+1+1)) 36]=W1 at hbl HX ⊢;generalize w.heap.size+1+1+1+1+1+1=eb at HX ⊢;generalize w.heap.size+1+1+1+1+1=sb at HX ⊢;generalize w.heap.size+1+1+1+1=q at HX ⊢;generalize w.heap.size+1+1+1=mb at HX ⊢;generalize w.heap.size+1+1=p at HX ⊢;generalize w.heap.size+1=l at HX ⊢;generalize ht:w.heap.size=t at HX ⊢;clear hbl HNO ht;have HIM:Hid ((Tryz.prog.info? 29).map (·.size)=some (xoM p).size):=Lib.hid (by show _=some 7;kernel_rfl);have HIS:Hid ((Tryz.prog.info? 33).map (·.size)=some (xoS q).size):=Lib.hid (by show _=some 6;kernel_rfl);have HIE:Hid ((Tryz.prog.info? 36).map (·.size)=some (xoE p q).size):=Lib.hid (by show _=some 16;kernel_rfl);go_wp2_with (refine wpList_load_row rfl _ _ rfl _ rfl _ (xoE p q) _ _ HX.out.e Tryz.underlying36 rfl HIE.out ?_);refine (HX.out.xm.ways HX.out.no).mono ?_;rintro e W2 ⟨g,c,rfl,hr,hb2⟩;have HX2:=Lib.hid (HX.out.below hb2);have HR:=Lib.hid hr;clear hb2 hr HX;obtain ⟨z0,z1,z2,z3,z4,z5⟩:=way_cells (j:=0) (x:=xW) HR.out rfl;have HWY:=Lib.hid (And.intro z0 (And.intro z1 (And.intro z2 (And.intro z3 (And.intro z4 z5)))));have hgl:=(HR.out.lt g rfl).2;have HQ:Hid (∀W,Below W2.heap.size W2 W→Below W2.heap.size W2 W∧W.cell? ⟨eb,0,none⟩=some (.slice none 0 0)∧W.cell? ⟨eb,1,none⟩=some (.slice none 0 0)∧W.cell? ⟨eb,2,none⟩=some (.slice none 0 0)∧W.cell? ⟨eb,3,none⟩=some (.slice none 0 0)∧W.cell? ⟨eb,4,none⟩=some (.slice (some ⟨p,0,none⟩) 1 1)∧W.cell? ⟨eb,5,none⟩=some (.int .i64 (-1))∧W.cell? ⟨eb,6,none⟩=some (.slice none 0 0)∧W.cell? ⟨eb,7,none⟩=some (.slice none 0 0)∧W.cell? ⟨eb,8,none⟩=some (.slice none 0 0)∧W.cell? ⟨eb,9,none⟩=some (.slice (some ⟨q,0,none⟩) 1 1)∧W.cell? ⟨eb,10,none⟩=some (.int .i64 0)∧W.cell? ⟨eb,11,none⟩=some (.int .i64 (-1))∧W.cell? ⟨eb,12,none⟩=some (.int .i64 (-1))∧W.cell? ⟨eb,13,none⟩=some (.int .i64 0)∧W.cell? ⟨eb,14,none⟩=some (.bool false)∧W.cell? ⟨eb,15,none⟩=some (.slice none 0 0)∧W.cell? ⟨g,0,none⟩=some (.int .i64 (-1))∧W.cell? ⟨g,1,none⟩=some (.int .i64 0)∧W.cell? ⟨g,2,none⟩=some (.int .i64 (-1))∧W.cell? ⟨g,3,none⟩=some (.int .i64 (-1))∧W.cell? ⟨g,4,none⟩=some (.int .i64 (-1))∧W.cell? ⟨g,5,none⟩=some (.int .i64 0)):=Lib.hid fun W hb=>by
  have k:=(HX2.out.below hb).e;have kc:∀ (i:Nat) (v:Value),(xoE p q)[i]? =some v→W.cell? ⟨eb,i,none⟩=some v:=fun i v hv=>(cell_of_row _ _ _ _ _ _ k).trans hv
  have kg:∀ (i:Nat) (v:Value),W2.cell? ⟨g,i,none⟩=some v→W.cell? ⟨g,i,none⟩=some v:=fun i v hv=>(hb.cell (p:=⟨g,i,none⟩) hgl).trans hv
  exact ⟨hb,kc 0 _ rfl,kc 1 _ rfl,kc 2 _ rfl,kc 3 _ rfl,kc 4 _ rfl,kc 5 _ rfl,kc 6 _ rfl,kc 7 _ rfl,kc 8 _ rfl,kc 9 _ rfl,kc 10 _ rfl,kc 11 _ rfl,kc 12 _ rfl,kc 13 _ rfl,kc 14 _ rfl,kc 15 _ rfl,kg _ _ HWY.out.1,kg _ _ HWY.out.2.1,kg _ _ HWY.out.2.2.1,kg _ _ HWY.out.2.2.2.1,kg _ _ HWY.out.2.2.2.2.1,kg _ _ HWY.out.2.2.2.2.2⟩
 have HG1:Hid (∀W,Below W2.heap.size W2 W→Calls Tryz.prog 10 #[.agg (xoE p q),.agg #[.int .i64 (-1),.int .i64 0,.int .i64 (-1),.int .i64 (-1),.int .i64 (-1),.int .i64 0]] W fun e W'=>∃ (h:SH) (g:Nat),e= .returned (.tuple #[.agg #[.slice h.go 0 h.gc,.slice h.co 0 h.cc,.slice (some ⟨g,0,none⟩) 1 h.pc,.int .i64 0,.int .i64 (-1),.int .i64 (-1)],.string ⟨#[]⟩,.int .i64 0])∧W.heap.size≤g∧g < W'.heap.size∧W'.cell? ⟨g,1,none⟩=some (.int .i64 1)∧Below W.heap.size W W'):=Lib.hid fun W hb=>(HX2.out.below hb).xm.go1 (HX2.out.below hb).no
 unfold xoE at HG1;clear z0 z1 z2 z3 z4 z5;go_upto_region 7 with fail
 go_cut [6,7,8] from 37 to 45 (fun v6 v7 v8 W'=>∃ (T gp pc:Nat),v6= .pointer (some ⟨T,0,none⟩)∧v7= .string ⟨#[]⟩∧v8= .int .i64 0∧Hid (Below W2.heap.size W2 W'∧T < W'.heap.size∧gp < W'.heap.size∧W'.cell? ⟨T,2,none⟩=some (.slice (some ⟨gp,0,none⟩) 1 pc)∧W'.cell? ⟨gp,1,none⟩=some (.int .i64 1)))
 case first=>
  have y0:∀W,Below W2.heap.size W2 W→W.cell? ⟨eb,0,none⟩=some (.slice none 0 0):=fun W hb=>(HQ.out W hb).2.1
  have y1:∀W,Below W2.heap.size W2 W→W.cell? ⟨eb,1,none⟩=some (.slice none 0 0):=fun W hb=>(HQ.out W hb).2.2.1
  have y2:∀W,Below W2.heap.size W2 W→W.cell? ⟨eb,2,none⟩=some (.slice none 0 0):=fun W hb=>(HQ.out W hb).2.2.2.1
  have y3:∀W,Below W2.heap.size W2 W→W.cell? ⟨eb,3,none⟩=some (.slice none 0 0):=fun W hb=>(HQ.out W hb).2.2.2.2.1
  have y4:∀W,Below W2.heap.size W2 W→W.cell? ⟨eb,4,none⟩=some (.slice (some ⟨p,0,none⟩) 1 1):=fun W hb=>(HQ.out W hb).2.2.2.2.2.1
  have y5:∀W,Below W2.heap.size W2 W→W.cell? ⟨eb,5,none⟩=some (.int .i64 (-1)):=fun W hb=>(HQ.out W hb).2.2.2.2.2.2.1
  have y6:∀W,Below W2.heap.size W2 W→W.cell? ⟨eb,6,none⟩=some (.slice none 0 0):=fun W hb=>(HQ.out W hb).2.2.2.2.2.2.2.1
  have y7:∀W,Below W2.heap.size W2 W→W.cell? ⟨eb,7,none⟩=some (.slice none 0 0):=fun W hb=>(HQ.out W hb).2.2.2.2.2.2.2.2.1
  have y8:∀W,Below W2.heap.size W2 W→W.cell? ⟨eb,8,none⟩=some (.slice none 0 0):=fun W hb=>(HQ.out W hb).2.2.2.2.2.2.2.2.2.1
  have y9:∀W,Below W2.heap.size W2 W→W.cell? ⟨eb,9,none⟩=some (.slice (some ⟨q,0,none⟩) 1 1):=fun W hb=>(HQ.out W hb).2.2.2.2.2.2.2.2.2.2.1
  have y10:∀W,Below W2.heap.size W2 W→W.cell? ⟨eb,10,none⟩=some (.int .i64 0):=fun W hb=>(HQ.out W hb).2.2.2.2.2.2.2.2.2.2.2.1
  have y11:∀W,Below W2.heap.size W2 W→W.cell? ⟨eb,11,none⟩=some (.int .i64 (-1)):=fun W hb=>(HQ.out W hb).2.2.2.2.2.2.2.2.2.2.2.2.1
  have y12:∀W,Below W2.heap.size W2 W→W.cell? ⟨eb,12,none⟩=some (.int .i64 (-1)):=fun W hb=>(HQ.out W hb).2.2.2.2.2.2.2.2.2.2.2.2.2.1
  have y13:∀W,Below W2.heap.size W2 W→W.cell? ⟨eb,13,none⟩=some (.int .i64 0):=fun W hb=>(HQ.out W hb).2.2.2.2.2.2.2.2.2.2.2.2.2.2.1
  have y14:∀W,Below W2.heap.size W2 W→W.cell? ⟨eb,14,none⟩=some (.bool false):=fun W hb=>(HQ.out W hb).2.2.2.2.2.2.2.2.2.2.2.2.2.2.2.1
  have y15:∀W,Below W2.heap.size W2 W→W.cell? ⟨eb,15,none⟩=some (.slice none 0 0):=fun W hb=>(HQ.out W hb).2.2.2.2.2.2.2.2.2.2.2.2.2.2.2.2.1
  have y16:∀W,Below W2.heap.size W2 W→W.cell? ⟨g,0,none⟩=some (.int .i64 (-1)):=fun W hb=>(HQ.out W hb).2.2.2.2.2.2.2.2.2.2.2.2.2.2.2.2.2.1
  have y17:∀W,Below W2.heap.size W2 W→W.cell? ⟨g,1,none⟩=some (.int .i64 0):=fun W hb=>(HQ.out W hb).2.2.2.2.2.2.2.2.2.2.2.2.2.2.2.2.2.2.1
  have y18:∀W,Below W2.heap.size W2 W→W.cell? ⟨g,2,none⟩=some (.int .i64 (-1)):=fun W hb=>(HQ.out W hb).2.2.2.2.2.2.2.2.2.2.2.2.2.2.2.2.2.2.2.1
  have y19:∀W,Below W2.heap.size W2 W→W.cell? ⟨g,3,none⟩=some (.int .i64 (-1)):=fun W hb=>(HQ.out W hb).2.2.2.2.2.2.2.2.2.2.2.2.2.2.2.2.2.2.2.2.1
  have y20:∀W,Below W2.heap.size W2 W→W.cell? ⟨g,4,none⟩=some (.int .i64 (-1)):=fun W hb=>(HQ.out W hb).2.2.2.2.2.2.2.2.2.2.2.2.2.2.2.2.2.2.2.2.2.1
  have y21:∀W,Below W2.heap.size W2 W→W.cell? ⟨g,5,none⟩=some (.int .i64 0):=fun W hb=>(HQ.out W hb).2.2.2.2.2.2.2.2.2.2.2.2.2.2.2.2.2.2.2.2.2.2
  have hR:Below W2.heap.size W2 W2:=Below.refl _ _;have hD:Below W2.heap.size W2 W2.drew:=(Below.refl _ _).drew;have hA:∀W o,Below W2.heap.size W2 W→Below W2.heap.size W2 (W.alloc o):=fun W o hb=>hb.alloc hb.size o
  have hDr:∀W,Below W2.heap.size W2 W→Below W2.heap.size W2 W.drew:=fun W hb=>hb.drew
  go_region_law
   (first
     | (go_simp;go_at_call 10
        with_reducible refine (HG1.out _ (by first | with_reducible exact hD | with_reducible exact hDr _ (hA _ _ hR) | with_reducible exact hA _ _ hD)).mono ?_
        rintro e W3 ⟨h3,gp,rfl,hge,hgp,hcp,hb3⟩;have hB3:Below W2.heap.size W2 W3:=keepS (by first | with_reducible exact hD | with_reducible exact hDr _ (hA _ _ hR) | with_reducible exact hA _ _ hD) hb3;have HP3:=Lib.hid (And.intro hgp hcp)
        try (have hz3:=(by with_reducible exact xnew_kept hb3))
        try (have hz3:=(by with_reducible exact xnew_keptD hb3))
        try (
         have q0:=(cell_of_row _ _ 0 _ _ _ hz3).trans rfl;have q1:=(cell_of_row _ _ 1 _ _ _ hz3).trans rfl;have q2:=(cell_of_row _ _ 2 _ _ _ hz3).trans rfl;have q3:=(cell_of_row _ _ 3 _ _ _ hz3).trans rfl;have q4:=(cell_of_row _ _ 4 _ _ _ hz3).trans rfl;have q5:=(cell_of_row _ _ 5 _ _ _ hz3).trans rfl;have t0:=frozen_of_row _ _ 0 _ _ hz3;have t1:=frozen_of_row _ _ 1 _ _ hz3;have t2:=frozen_of_row _ _ 2 _ _ hz3;have t3:=frozen_of_row _ _ 3 _ _ hz3;have t4:=frozen_of_row _ _ 4 _ _ hz3;have t5:=frozen_of_row _ _ 5 _ _ hz3)
        clear hgp hcp hb3))
  all_goals (
   try simp only [Exit.inBlock,Exit.then]
   clear y0 y1 y2 y3 y4 y5 y6 y7 y8 y9 y10 y11 y12 y13 y14 y15 y16 y17 y18 y19 y20 y21;go_wp2_with fail;go_meet
   first
    | (have hz4:=hz3;exact ⟨_,gp,_,rfl,rfl,rfl,Lib.hid ⟨xsixS hB3 (Nat.le_refl _) _ _ _ _ _ _,lt_of_block (xsixB hz3 _ _ _ _ _ _),by simp;exact HP3.out.1,(cell_of_row _ _ 2 _ _ _ (xsixB hz3 _ _ _ _ _ _)).trans rfl,six_keep HP3.out.2 (by show gp≠_;simp at hge;omega) _ _ _ _ _ _⟩⟩)
    | exact ⟨_,gp,_,rfl,rfl,rfl,Lib.hid ⟨hB3.alloc hB3.size _,by simp,by simp;have:=HP3.out.1;omega,(cell_of_row _ _ 2 _ _ _ (heap_alloc_new _ _)).trans rfl,((ball _).cell (p:=⟨gp,1,none⟩) HP3.out.1).trans HP3.out.2⟩⟩)
 case rest=>
  rename World=>Wc
  obtain ⟨T,gp,pc,rfl,rfl,rfl,HC⟩:=hcut;have HXc:=Lib.hid (HX2.out.below HC.out.1);have HWc:Hid (∀W,Below Wc.heap.size Wc W→ (W.cell? ⟨g,0,none⟩=some (.int .i64 (-1))∧W.cell? ⟨g,1,none⟩=some (.int .i64 0)∧W.cell? ⟨g,2,none⟩=some (.int .i64 (-1))∧W.cell? ⟨g,3,none⟩=some (.int .i64 (-1))∧W.cell? ⟨g,4,none⟩=some (.int .i64 (-1))∧W.cell? ⟨g,5,none⟩=some (.int .i64 0))∧W.cell? ⟨T,2,none⟩=some (.slice (some ⟨gp,0,none⟩) 1 pc)∧W.cell? ⟨gp,1,none⟩=some (.int .i64 1)):=Lib.hid fun W hb=>by
   have hW2:Below W2.heap.size W2 W:=HC.out.1.trans (hb.mono HC.out.1.size);have kg:∀ (i:Nat) (v:Value),W2.cell? ⟨g,i,none⟩=some v→W.cell? ⟨g,i,none⟩=some v:=fun i v hv=>(hW2.cell (p:=⟨g,i,none⟩) hgl).trans hv
   exact ⟨⟨kg _ _ HWY.out.1,kg _ _ HWY.out.2.1,kg _ _ HWY.out.2.2.1,kg _ _ HWY.out.2.2.2.1,kg _ _ HWY.out.2.2.2.2.1,kg _ _ HWY.out.2.2.2.2.2⟩,(hb.cell (p:=⟨T,2,none⟩) HC.out.2.1).trans HC.out.2.2.2.1,(hb.cell (p:=⟨gp,1,none⟩) HC.out.2.2.1).trans HC.out.2.2.2.2⟩
  obtain ⟨-,c2,-⟩:=HWc.out Wc (Below.refl _ _);clear hgl HQ HG1 HWY HR;go_wp2_with (first | refine wpList_load_row rfl _ _ rfl _ rfl _ (xoM p) _ _ HXc.out.m Tryz.underlying29 rfl HIM.out ?_ | refine wpList_load_row rfl _ _ rfl _ rfl _ (xoS q) _ _ HXc.out.s Tryz.underlying33 rfl HIS.out ?_);refine (HXc.out.xm.able HXc.out.no).mono ?_;rintro e W4 ⟨ga,rfl,hga,hca,hb4⟩;have HX4:=Lib.hid (HXc.out.below hb4);have HB4:=Lib.hid hb4;have HA:=Lib.hid (And.intro hga hca);clear hb4 hga hca c2 HXc;go_wp2_with (refine wpList_load_row rfl _ _ rfl _ rfl _ (xoE p q) _ _ HX4.out.e Tryz.underlying36 rfl HIE.out ?_);refine (HX4.out.xm.go0 HX4.out.no).mono ?_;rintro e W5 ⟨h5,rfl,hb5⟩;have HX5:=Lib.hid ((HX4.out.below hb5).below (ball (.cells #[.slice h5.go 0 h5.gc,.slice h5.co 0 h5.cc,.slice h5.po 0 h5.pc,.int .i64 0,.int .i64 0,.int .i64 0] 33)));have HB5:Hid (Below W4.heap.size W4 (W5.alloc (.cells #[.slice h5.go 0 h5.gc,.slice h5.co 0 h5.cc,.slice h5.po 0 h5.pc,.int .i64 0,.int .i64 0,.int .i64 0] 33))):=Lib.hid (hb5.alloc hb5.size _);clear hb5 HX4;go_upto_region 12 with fail
  generalize W5.alloc (.cells #[.slice h5.go 0 h5.gc,.slice h5.co 0 h5.cc,.slice h5.po 0 h5.pc,.int .i64 0,.int .i64 0,.int .i64 0] 33)=W6 at HX5 HB5 ⊢;obtain ⟨⟨z0,z1,z2,z3,z4,z5⟩,c2,c1⟩:=HWc.out W6 (HB4.out.trans (HB5.out.mono HB4.out.size));have ca:=(HB5.out.cell (p:=⟨ga,0,none⟩) HA.out.1).trans HA.out.2;go_wp2_with fail;go_ret;exact ⟨rfl,HX5.out.bel⟩
end Go.Proofs.YthfldokfnjpkmaaGreatDoor
