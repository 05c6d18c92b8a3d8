/- The document's Store of layer 14. -/
import Derived.Test.YtbhgdlfndamklaaGreatDoorS41
import Derived.Test.YtbhgdlfndamklaaGreatDoorS45
import Derived.Test.YtbhgdlfndamklaaGreatDoorS46
import Derived.Test.YtbhgdlfndamklaaGreatDoorS25
import Derived.Test.YtbhgdlfndamklaaGreatDoorS01
import Derived.Test.YtbhgdlfndamklaaGreatDoorS36
set_option linter.unusedVariables false
set_option linter.unusedSimpArgs false
namespace Go.Proofs.YtbhgdlfndamklaaGreatDoor
open Go.ChangeShapes Go.WideShapes Go.ChangeAt Go.RowKit
def dStore (E:EnvD) (x:ExprD) (v:Int):StateD × Int:=if (rslotB E (evE E) x).2.2≠0 then (zeroS,(rslotB E (evE E) x).2.2) else (setS E (rslotB E (evE E) x).1 (rslotB E (evE E) x).2.1 v,0)
theorem store_end {w W:World} {T:Nat} {h2:SH} {q sl v:Int} {E:EnvD} (hT:w.heap.size+2≤T) (hO:∃R,Own (w.heap.size+2) W R∧Spl R h2 (setS E q sl v)) (hb:Below w.heap.size w W):
 SO w.heap.size (put6 W (w.heap.size+1) 0 h2 E.s) h2 (setS E q sl v)∧Below w.heap.size w (put6 W (w.heap.size+1) 0 h2 E.s):=by
 obtain ⟨R,ho,hs⟩:=hO;exact ⟨⟨R,(put6_own (b:=w.heap.size+1) (o:=0) (h:=h2) (s:=E.s) ho (by omega)).mono (by omega),hs⟩,hb.trans (put6_below (b:=w.heap.size+1) (o:=0) (h:=h2) (s:=E.s) (by omega))⟩
set_option maxHeartbeats 4000000 in
set_option maxRecDepth 100000 in
theorem store14H {h:MH} {hs:SH} {ao:Option Addr} {ac:Nat} {E:EnvD} {p:Nat} {x:ExprD} (v:Int) (w:World) (hd:ED w.heap.size w h hs ao E) (hok:Ok E) (hx:E.m.exprs[p]? =some x):
 Calls Tryz.prog 15 #[.agg (eCells h hs ao ac E),.int .i64 p,.int .i64 v] w (StoreP w (dStore E x v)):=by
 have HOK:=Lib.hid hok;have hvf:=fun h2=>var_facts hok hx h2
 obtain ⟨⟨q,sl,er⟩,hr⟩:∃r,rslotB E (evE E) x=r:=⟨_,rfl⟩;have HV:Hid (dStore E x v=if er≠0 then (zeroS,er) else (setS E q sl v,0)):=Lib.hid (by unfold dStore;rw [hr]);have HSR:Hid (er=0→q < E.s.procs.length∧∃k:Nat,sl=k∧k < (slotsL E q).length):=Lib.hid (fun h0=>by
  have h2:x.op=2:=by
   apply Classical.byContradiction;intro h2;unfold rslotB at hr;rw [if_pos h2] at hr;injection hr with _ hr
   injection hr with _ hr
   omega
  have:=slot_range (ev:=evE E) hok (hvf h2).1 (by rw [hr];exact h0);rw [hr] at this;exact this)
 have HSL:=Lib.hid (fun (W:World) (hdW:ED W.heap.size W h hs ao E)=>slot14H (ac:=ac) W hdW hok (evalH hok) hx (fun h2=>(hvf h2).1) (fun h2 hs=>by have:=(hvf h2).2.1 hs;have:=(List.getElem?_eq_some_iff.1 hx).1;omega) (fun h2 d hd=>by have:=(hvf h2).2.2 d hd;have:=(List.getElem?_eq_some_iff.1 hx).1;omega));rw [hr] at HSL;simp only at HSL;have HLB:=Lib.hid (may_lensB hok.good hok.may);obtain ⟨ES,hES⟩:∃c,c=eCells h hs ao ac E:=⟨_,rfl⟩;have HES:=Lib.hid hES;have HX:Hid (Zs w ES h hs ao ac E ((w.alloc (.cells ES 36)).alloc (.cells #[.slice none 0 0,.slice none 0 0,.slice none 0 0,.int .i64 0,.int .i64 0,.int .i64 0] 33))):=Lib.hid ((Zs.new hd hES).below (ball _));have HRES:Hid (((w.alloc (.cells ES 36)).alloc (.cells #[.slice none 0 0,.slice none 0 0,.slice none 0 0,.int .i64 0,.int .i64 0,.int .i64 0] 33)).heap[w.heap.size+1]? =some (.cells #[.slice none 0 0,.slice none 0 0,.slice none 0 0,.int .i64 0,.int .i64 0,.int .i64 0] 33 (0,0))):=Lib.hid (new_at (by simp));rw [←hES];clear hd hok hx hvf hr hES;go_enter Tryz.func15,Tryz.ntmps15;go_upto_region 1 with fail
 generalize (w.alloc (.cells ES 36)).alloc (.cells #[.slice none 0 0,.slice none 0 0,.slice none 0 0,.int .i64 0,.int .i64 0,.int .i64 0] 33)=W0 at HX HRES ⊢;have HSC:Hid (Calls Tryz.prog 14 #[.agg ES,.int .i64 p] W0 fun e w'=>e= .returned (.tuple #[.int .i64 q,.int .i64 sl,.int .i64 er])∧Below W0.heap.size W0 w'):=Lib.hid (by
  have:=HSL.out W0 HX.out.here;rw [←HES.out] at this;exact this)
 go_wp2_with (refine wpList_load_row rfl _ _ rfl _ rfl _ ES _ _ HX.out.bx.box Tryz.underlying36 rfl HX.out.info ?_);refine HSC.out.mono ?_;rintro e W1 ⟨rfl,hb1⟩;have HX1:=Lib.hid (HX.out.below hb1);have HR1:Hid (W1.heap[w.heap.size+1]? =some (.cells #[.slice none 0 0,.slice none 0 0,.slice none 0 0,.int .i64 0,.int .i64 0,.int .i64 0] 33 (0,0))):=Lib.hid ((hb1.block _ (lt_of_block HRES.out)).trans HRES.out);clear hb1 HSC HX HRES HSL;by_cases h0:er=0;rotate_left
 · have hd0: (er != 0)=true:=by rw [bne_iff_ne];exact h0
   have HZ:=Lib.hid (HV.out.trans (if_pos h0));have q0:=(cell_of_row _ _ 0 _ _ _ HR1.out).trans rfl;have q1:=(cell_of_row _ _ 1 _ _ _ HR1.out).trans rfl;have q2:=(cell_of_row _ _ 2 _ _ _ HR1.out).trans rfl;have q3:=(cell_of_row _ _ 3 _ _ _ HR1.out).trans rfl;have q4:=(cell_of_row _ _ 4 _ _ _ HR1.out).trans rfl;have q5:=(cell_of_row _ _ 5 _ _ _ HR1.out).trans rfl;have t0:=frozen_of_row _ _ 0 _ _ HR1.out;have t1:=frozen_of_row _ _ 1 _ _ HR1.out;have t2:=frozen_of_row _ _ 2 _ _ HR1.out;have t3:=frozen_of_row _ _ 3 _ _ HR1.out;have t4:=frozen_of_row _ _ 4 _ _ HR1.out;have t5:=frozen_of_row _ _ 5 _ _ HR1.out;clear h0;go_wp2_with fail;refine bodyPost_ret (v:= .tuple #[sV zeroH zeroS,.int .i64 er]) (by simp [sV,sCells,zeroH,zeroS,results,Tryz.results15,go_sem,q0,q1,q2,q3,q4,q5,t0,t1,t2,t3,t4,t5]) rfl ?_;rw [HZ.out];exact ⟨zeroH,rfl,SO.zero _ _,HX1.out.bx.bel.trans (put6_below (b:=w.heap.size+1) (o:=0) (h:=zeroH) (s:=zeroS) (by omega))⟩
 have hd0: (er != 0)=false:=by rw [bne_eq_false_iff_eq];exact h0
 subst h0;have HZ:Hid (dStore E x v= (setS E q sl v,0)):=Lib.hid (HV.out.trans (if_neg (by simp)));obtain ⟨hqr,k,rfl,hkl⟩:=HSR.out rfl;have HCP:Hid (Calls Tryz.prog 11 #[sV hs E.s] W1 (CopyP w.heap.size W1 E.s)):=Lib.hid (copy12H W1 HX1.out.bx.bel.size HX1.out.ed.sd HLB.out);unfold sV sCells at HCP;have s0:W1.cell? ⟨w.heap.size,7,none⟩=some (.slice hs.go E.s.globals.length hs.gc):=HX1.out.cell rfl;have s1:W1.cell? ⟨w.heap.size,8,none⟩=some (.slice hs.co E.s.chans.length hs.cc):=HX1.out.cell rfl;have s2:W1.cell? ⟨w.heap.size,9,none⟩=some (.slice hs.po E.s.procs.length hs.pc):=HX1.out.cell rfl;have s3:W1.cell? ⟨w.heap.size,10,none⟩=some (.int .i64 E.s.last):=HX1.out.cell rfl;have s4:W1.cell? ⟨w.heap.size,11,none⟩=some (.int .i64 E.s.alone):=HX1.out.cell rfl;have s5:W1.cell? ⟨w.heap.size,12,none⟩=some (.int .i64 E.s.claim):=HX1.out.cell rfl;clear HV HSR;go_wp2_with fail;refine HCP.out.mono ?_;rintro e W2 ⟨h2,rfl,hso,hb2⟩;clear s0 s1 s2 s3 s4 s5 HCP;obtain ⟨R,ho,hsp⟩:=hso;have hR2l:w.heap.size+2≤W1.heap.size:=lt_of_block HR1.out;have HR2L:=Lib.hid hR2l;have HB2:=Lib.hid hb2;have HX2:=Lib.hid (HX1.out.below hb2);have HSP:=Lib.hid hsp;have HO3:Hid (Own (w.heap.size+2) (W2.alloc (.cells (sCells h2 E.s) 33)) R):=Lib.hid ((ho.below (ball _)).mono hR2l);have HX3:=Lib.hid (HX2.out.below (ball (.cells (sCells h2 E.s) 33)));have HK3:Hid ((W2.alloc (.cells (sCells h2 E.s) 33)).heap[W2.heap.size]? =some (.cells (sCells h2 E.s) 33 (0,0))):=Lib.hid (heap_alloc_new W2 _);have HR3:Hid ((W2.alloc (.cells (sCells h2 E.s) 33)).heap[w.heap.size+1]? =some (.cells #[.slice none 0 0,.slice none 0 0,.slice none 0 0,.int .i64 0,.int .i64 0,.int .i64 0] 33 (0,0))):=Lib.hid (((ball _).block _ (Nat.lt_of_lt_of_le (lt_of_block HR1.out) hb2.size)).trans ((hb2.block _ (lt_of_block HR1.out)).trans HR1.out));have HTL:Hid (w.heap.size+2≤W2.heap.size):=Lib.hid (Nat.le_trans hR2l hb2.size);clear ho hsp hb2 hR2l HX1 HX2 HR1;unfold sV sCells;go_upto_region 5 with fail
 unfold sCells at HO3 HX3 HK3 HR3;obtain ⟨T,hT⟩:∃T,W2.heap.size=T:=⟨_,rfl⟩;generalize W2.alloc (.cells #[.slice h2.go E.s.globals.length h2.gc,.slice h2.co E.s.chans.length h2.cc,.slice h2.po E.s.procs.length h2.pc,.int .i64 E.s.last,.int .i64 E.s.alone,.int .i64 E.s.claim] 33)=W3 at HO3 HX3 HK3 HR3 ⊢;rw [hT] at HK3 HTL ⊢;clear hT;have hkz: (0:Int)≤k:=by omega
 have hlt:k < (typesL E q).length:=by rw [types_len HOK.out hqr];exact hkl
 obtain ⟨⟨tb,ts⟩,hty⟩:∃t,(typesL E q)[k]=t:=⟨_,rfl⟩;have HF:Hid (fitAt E q k v=val.fitI tb ts v):=Lib.hid (by unfold fitAt;rw [Int.toNat_natCast,List.getD_eq_getElem?_getD,List.getElem?_eq_getElem hlt,hty];rfl);obtain ⟨z,hz⟩:∃z,val.fitI tb ts v=z:=⟨_,rfl⟩;have HFT:=Lib.hid (fun W=>val.rfit_any tb v ts W);rw [hz] at HF HFT;clear hz;by_cases hn:q < 0
 · have hd1:decide (q < 0)=true:=decide_eq_true hn;have hTy:typesL E q=E.m.globals:=by unfold typesL;rw [if_pos hn]
   have hSl:slotsL E q=E.s.globals:=by unfold slotsL;rw [if_pos hn]
   have hlt':k < E.m.globals.length:=by rw [←hTy];exact hlt
   have hlg:k < E.s.globals.length:=by rw [←hSl];exact hkl
   have hgi: (k:Int) < E.m.globals.length:=by omega
   have hgj: (k:Int) < E.s.globals.length:=by omega
   have hgl:=HX3.out.ed.md.globals.1;have hgl2:=HX3.out.ed.sd.globals.1;obtain ⟨g,off,ho,hg,ht⟩:=HX3.out.ed.md.globals.cell hlt';have hel:E.m.globals[k]= (tb,ts):=by rw [←hty];congr 1;exact hTy.symm
   rw [hel] at ht;obtain ⟨t0,t1⟩:=ht;have hrow:=HO3.out.row kG;rw [HSP.out.g] at hrow;dsimp only at hrow;obtain ⟨gb,cap,e⟩:=Joins.ownsRow_form hrow (by omega);injection e with e1 e2 e3
   have HGB:=Lib.hid e1;rw [e1] at hrow;have hgb:=(hrow.lt gb rfl).2;have c0:=hrow.cellAt k (by omega);have c1:=hrow.frozenAt k;have hvk: (intsV E.s.globals)[k]? =some (.int .i64 E.s.globals[k]):=by simp [intsV,hlg]
   rw [hvk] at c0;have HSPP:=Lib.hid (HSP.out.putG (k:Int) z hn);have HQ:Hid (∀W,Below W3.heap.size W3 W→W.cell? ⟨T,0,none⟩=some (.slice (some ⟨gb,0,none⟩) E.s.globals.length h2.gc)∧W.cell? ⟨w.heap.size,0,none⟩=some (.slice (some ⟨g,off,none⟩) E.m.globals.length h.gc)∧W.cell? ⟨g,off+k*2,none⟩=some (.int .i64 tb)∧W.cell? ⟨g,off+k*2+1,none⟩=some (.bool ts)∧W.cell? ⟨gb,k,none⟩=some (.int .i64 E.s.globals[k])∧W.frozen? ⟨gb,k,none⟩=false):=Lib.hid fun W hb=>
    have hg':=Nat.lt_of_lt_of_le hg HX3.out.bx.bel.size
    ⟨(hb.cell (p:=⟨T,0,none⟩) (lt_of_block HK3.out)).trans ((cell_of_row _ _ 0 _ _ _ HK3.out).trans (by rw [HGB.out];rfl)),by rw [←ho];exact (HX3.out.below hb).cell rfl,(hb.cell (p:=⟨g,off+k*2,none⟩) hg').trans t0,(hb.cell (p:=⟨g,off+k*2+1,none⟩) hg').trans t1,(hb.cell (p:=⟨gb,k,none⟩) hgb).trans c0,(hb.frozen (p:=⟨gb,k,none⟩) hgb).trans c1⟩
   have HGBL:=Lib.hid (hrow.lt gb rfl);clear hvk hrow e1 e2 e3 hel hty hTy hSl hlt hkl ho t0 t1 c0 c1 hg hgb;go_upto_region 6 with fail
   refine wp_region_kept_tail 12 (by kernel_rfl) (by kernel_rfl) (fun ι hne f hf hcl=> ?_);simp only [List.take_succ_cons,List.take_zero,List.drop_succ_cons,List.drop_zero];have z0:∀n,(f n).cell? ⟨T,0,none⟩=some (.slice (some ⟨gb,0,none⟩) E.s.globals.length h2.gc):=fun n=>(HQ.out _ (hf n)).1
   have z1:∀n,(f n).cell? ⟨w.heap.size,0,none⟩=some (.slice (some ⟨g,off,none⟩) E.m.globals.length h.gc):=fun n=>(HQ.out _ (hf n)).2.1
   have z2:∀n,(f n).cell? ⟨g,off+k*2,none⟩=some (.int .i64 tb):=fun n=>(HQ.out _ (hf n)).2.2.1
   have z3:∀n,(f n).cell? ⟨g,off+k*2+1,none⟩=some (.bool ts):=fun n=>(HQ.out _ (hf n)).2.2.2.1
   have HFF:=Lib.hid hcl;clear hcl hf
   repeat (go_big_quiet_step ((go_at_call 33;with_reducible exact kept_of HFF.out _ (HFT.out _))))
   refine wpQuiet_nil ?_;intro W4 hb4;obtain ⟨-,-,-,-,m1,m2⟩:=HQ.out W4 hb4;have HB4:=Lib.hid hb4;clear hb4 z0 z1 z2 z3 HFF HQ;have HO5:Hid (∃R',Own (w.heap.size+2) (W4.setCell ⟨gb,k,none⟩ (.int .i64 z)) R'∧Spl R' h2 (setS E q k v)):=Lib.hid ⟨_,(HO3.out.below HB4.out).set kG (g:=gb) (n:=E.s.globals.length) (c:=h2.gc) (by rw [HSP.out.g,HGB.out]) (by rw [HSP.out.g]) k (.int .i64 z),by unfold setS;rw [HF.out];exact HSPP.out⟩;have hne:T≠gb:=fun e=>owns_neObj (HO3.out.row kG) HK3.out (by rw [HSP.out.g];simp) (by rw [HSP.out.g,HGB.out,e];rfl)
   have HK5:Hid ((W4.setCell ⟨gb,k,none⟩ (.int .i64 z)).heap[T]? =some (.cells #[.slice h2.go E.s.globals.length h2.gc,.slice h2.co E.s.chans.length h2.cc,.slice h2.po E.s.procs.length h2.pc,.int .i64 E.s.last,.int .i64 E.s.alone,.int .i64 E.s.claim] 33 (0,0))):=Lib.hid ((heap_setCell_other _ _ _ _ hne).trans ((HB4.out.block _ (lt_of_block HK3.out)).trans HK3.out));have HR5:Hid ((W4.setCell ⟨gb,k,none⟩ (.int .i64 z)).heap[w.heap.size+1]? =some (.cells #[.slice none 0 0,.slice none 0 0,.slice none 0 0,.int .i64 0,.int .i64 0,.int .i64 0] 33 (0,0))):=Lib.hid ((heap_setCell_other _ _ _ _ (by show w.heap.size+1≠gb;have:=HGBL.out.1;omega)).trans ((HB4.out.block _ (lt_of_block HR3.out)).trans HR3.out));have HB5:Hid (Below w.heap.size w (W4.setCell ⟨gb,k,none⟩ (.int .i64 z))):=Lib.hid ((HX3.out.bx.bel.trans (HB4.out.mono HX3.out.bx.bel.size)).setCell (by show w.heap.size≤gb;have:=HGBL.out.1;omega) _);clear hne;go_upto_region 8 with fail
   generalize W4.setCell ⟨gb,k,none⟩ (.int .i64 z)=W5 at HO5 HK5 HR5 HB5 ⊢;clear m1 m2;have HEND:=Lib.hid (store_end (h2:=h2) HTL.out HO5.out HB5.out);have s0:W5.cell? ⟨T,0,none⟩=some (.slice h2.go E.s.globals.length h2.gc):=(cell_of_row _ _ 0 _ _ _ HK5.out).trans rfl;have s1:W5.cell? ⟨T,1,none⟩=some (.slice h2.co E.s.chans.length h2.cc):=(cell_of_row _ _ 1 _ _ _ HK5.out).trans rfl;have s2:W5.cell? ⟨T,2,none⟩=some (.slice h2.po E.s.procs.length h2.pc):=(cell_of_row _ _ 2 _ _ _ HK5.out).trans rfl;have s3:W5.cell? ⟨T,3,none⟩=some (.int .i64 E.s.last):=(cell_of_row _ _ 3 _ _ _ HK5.out).trans rfl;have s4:W5.cell? ⟨T,4,none⟩=some (.int .i64 E.s.alone):=(cell_of_row _ _ 4 _ _ _ HK5.out).trans rfl;have s5:W5.cell? ⟨T,5,none⟩=some (.int .i64 E.s.claim):=(cell_of_row _ _ 5 _ _ _ HK5.out).trans rfl;have q0:=(cell_of_row _ _ 0 _ _ _ HR5.out).trans rfl;have q1:=(cell_of_row _ _ 1 _ _ _ HR5.out).trans rfl;have q2:=(cell_of_row _ _ 2 _ _ _ HR5.out).trans rfl;have q3:=(cell_of_row _ _ 3 _ _ _ HR5.out).trans rfl;have q4:=(cell_of_row _ _ 4 _ _ _ HR5.out).trans rfl;have q5:=(cell_of_row _ _ 5 _ _ _ HR5.out).trans rfl;have t0:=frozen_of_row _ _ 0 _ _ HR5.out;have t1:=frozen_of_row _ _ 1 _ _ HR5.out;have t2:=frozen_of_row _ _ 2 _ _ HR5.out;have t3:=frozen_of_row _ _ 3 _ _ HR5.out;have t4:=frozen_of_row _ _ 4 _ _ HR5.out;have t5:=frozen_of_row _ _ 5 _ _ HR5.out;have HSV:Hid (sV h2 (setS E q k v)=sV h2 E.s):=Lib.hid (by unfold setS;exact sV_put _ _ _ _ _);go_wp2_with fail;refine bodyPost_ret (v:= .tuple #[sV h2 E.s,.int .i64 0]) (by simp [sV,sCells,results,Tryz.results15,go_sem,q0,q1,q2,q3,q4,q5,t0,t1,t2,t3,t4,t5]) rfl ?_;rw [HZ.out];exact ⟨h2,by rw [HSV.out],HEND.out.1,HEND.out.2⟩
 · obtain ⟨j,rfl⟩:∃j:Nat,q=j:=⟨q.toNat,by omega⟩;have hjl:j < E.s.procs.length:=by omega
   have hji: (j:Int) < E.s.procs.length:=by omega
   have hj0: (0:Int)≤j:=by omega
   have hd1:decide ((j:Int) < 0)=false:=decide_eq_false hn;obtain ⟨gp,fo,fc,hpo,hgp,hc0,hc3,hkF⟩:=frame_own HO3.out HSP.out hjl;obtain ⟨t,ht,hfl,-,-,hty0⟩:=may_frame HOK.out.may (List.getElem_mem hjl);have htp:E.s.procs[j].type < E.m.procs.length:=by have:=(List.getElem?_eq_some_iff.1 ht).1;omega
   obtain ⟨tj,htj⟩:∃tj:Nat,E.s.procs[j].type=tj:=⟨E.s.procs[j].type.toNat,by omega⟩;rw [htj,Int.toNat_natCast] at ht;have htyp:typeOfP E j=tj:=by rw [typeOf_get (List.getElem?_eq_getElem hjl),htj]
   have hTy:typesL E j=t.frame:=by unfold typesL;rw [if_neg hn,htyp,Int.toNat_natCast,ht];rfl
   have hSl:slotsL E j=E.s.procs[j].frame:=by unfold slotsL;rw [if_neg hn,Int.toNat_natCast,List.getElem?_eq_getElem hjl];rfl
   have hlt':k < t.frame.length:=by rw [←hTy];exact hlt
   have hlg:k < E.s.procs[j].frame.length:=by rw [←hSl];exact hkl
   have htl:tj < E.m.procs.length:=by omega
   have hti: (tj:Int) < E.m.procs.length:=by omega
   have ht0: (0:Int)≤tj:=by omega
   have hgi: (k:Int) < t.frame.length:=by omega
   have hgj: (k:Int) < E.s.procs[j].frame.length:=by omega
   have hpl:=HX3.out.ed.md.procs.1;have hpl2:=HX3.out.ed.sd.procs.1;obtain ⟨gm,offm,hom,hgm,hta⟩:=HX3.out.ed.md.procs.get ht;obtain ⟨fto,ftc,ct,hrt⟩:=hta.frame;have hfl1:=hrt.1;obtain ⟨g,off,ho,hg,htt⟩:=hrt.cell hlt';have hel:t.frame[k]= (tb,ts):=by rw [←hty];congr 1;exact hTy.symm
   rw [hel] at htt;rw [ho] at ct;rw [htj] at hc0;obtain ⟨t0,t1⟩:=htt;have hrow:=HO3.out.row (kF j);rw [hkF] at hrow;dsimp only at hrow;obtain ⟨gb,cap,e⟩:=Joins.ownsRow_form hrow (by omega);injection e with e1 e2 e3
   have HGB:=Lib.hid e1;have HKF:=Lib.hid hkF;rw [e1] at hrow hc3;have hgb:=(hrow.lt gb rfl).2;have c0:=hrow.cellAt k (by omega);have c1:=hrow.frozenAt k;have hvk: (intsV E.s.procs[j].frame)[k]? =some (.int .i64 E.s.procs[j].frame[k]):=by simp [intsV,hlg]
   rw [hvk] at c0;have HSPP:=Lib.hid (HSP.out.putF (k:Int) z hjl);have HQ:Hid (∀W,Below W3.heap.size W3 W→W.cell? ⟨T,2,none⟩=some (.slice (some ⟨gp,0,none⟩) E.s.procs.length h2.pc)∧W.cell? ⟨w.heap.size,4,none⟩=some (.slice (some ⟨gm,offm,none⟩) E.m.procs.length h.pc)∧W.cell? ⟨g,off+k*2,none⟩=some (.int .i64 tb)∧W.cell? ⟨g,off+k*2+1,none⟩=some (.bool ts)∧W.cell? ⟨gb,k,none⟩=some (.int .i64 E.s.procs[j].frame[k])∧W.frozen? ⟨gb,k,none⟩=false∧W.cell? ⟨gp,j*4,none⟩=some (.int .i64 tj)∧W.cell? ⟨gp,j*4+3,none⟩=some (.slice (some ⟨gb,0,none⟩) E.s.procs[j].frame.length fc)∧W.cell? ⟨gm,offm+tj*10+2,none⟩=some (.slice (some ⟨g,off,none⟩) t.frame.length ftc)):=Lib.hid fun W hb=>
    have hg':=Nat.lt_of_lt_of_le hg HX3.out.bx.bel.size;have hgm':=Nat.lt_of_lt_of_le hgm HX3.out.bx.bel.size
    ⟨(hb.cell (p:=⟨T,2,none⟩) (lt_of_block HK3.out)).trans ((cell_of_row _ _ 2 _ _ _ HK3.out).trans (by rw [hpo];rfl)),by rw [←hom];exact (HX3.out.below hb).cell rfl,(hb.cell (p:=⟨g,off+k*2,none⟩) hg').trans t0,(hb.cell (p:=⟨g,off+k*2+1,none⟩) hg').trans t1,(hb.cell (p:=⟨gb,k,none⟩) hgb).trans c0,(hb.frozen (p:=⟨gb,k,none⟩) hgb).trans c1,(hb.cell (p:=⟨gp,j*4,none⟩) hgp).trans hc0,(hb.cell (p:=⟨gp,j*4+3,none⟩) hgp).trans hc3,(hb.cell (p:=⟨gm,offm+tj*10+2,none⟩) hgm').trans ct⟩
   have HGBL:=Lib.hid (hrow.lt gb rfl);clear hvk hrow e1 e2 e3 hel hty hTy hSl hlt hkl ho hom hpo hkF hc0 hc3 ht htyp htj hty0 htp hfl hta hrt t0 t1 c0 c1 ct hg hgm hgp hgb;go_upto_region 7 with fail
   refine wp_region_kept_tail 25 (by kernel_rfl) (by kernel_rfl) (fun ι hne f hf hcl=> ?_);simp only [List.take_succ_cons,List.take_zero,List.drop_succ_cons,List.drop_zero];have z0:∀n,(f n).cell? ⟨T,2,none⟩=some (.slice (some ⟨gp,0,none⟩) E.s.procs.length h2.pc):=fun n=>(HQ.out _ (hf n)).1
   have z1:∀n,(f n).cell? ⟨w.heap.size,4,none⟩=some (.slice (some ⟨gm,offm,none⟩) E.m.procs.length h.pc):=fun n=>(HQ.out _ (hf n)).2.1
   have z2:∀n,(f n).cell? ⟨g,off+k*2,none⟩=some (.int .i64 tb):=fun n=>(HQ.out _ (hf n)).2.2.1
   have z3:∀n,(f n).cell? ⟨g,off+k*2+1,none⟩=some (.bool ts):=fun n=>(HQ.out _ (hf n)).2.2.2.1
   have z4:∀n,(f n).cell? ⟨gp,j*4,none⟩=some (.int .i64 tj):=fun n=>(HQ.out _ (hf n)).2.2.2.2.2.2.1
   have z5:∀n,(f n).cell? ⟨gp,j*4+3,none⟩=some (.slice (some ⟨gb,0,none⟩) E.s.procs[j].frame.length fc):=fun n=>(HQ.out _ (hf n)).2.2.2.2.2.2.2.1
   have z6:∀n,(f n).cell? ⟨gm,offm+tj*10+2,none⟩=some (.slice (some ⟨g,off,none⟩) t.frame.length ftc):=fun n=>(HQ.out _ (hf n)).2.2.2.2.2.2.2.2
   have HFF:=Lib.hid hcl;clear hcl hf
   repeat (go_big_quiet_step ((go_at_call 33;with_reducible exact kept_of HFF.out _ (HFT.out _))))
   refine wpQuiet_nil ?_;intro W4 hb4;obtain ⟨-,-,-,-,m1,m2,-⟩:=HQ.out W4 hb4;have HB4:=Lib.hid hb4;clear hb4 z0 z1 z2 z3 z4 z5 z6 HFF HQ;have HO5:Hid (∃R',Own (w.heap.size+2) (W4.setCell ⟨gb,k,none⟩ (.int .i64 z)) R'∧Spl R' h2 (setS E j k v)):=Lib.hid ⟨_,(HO3.out.below HB4.out).set (kF j) (g:=gb) (n:=E.s.procs[j].frame.length) (c:=fc) (by rw [HKF.out,HGB.out]) (by rw [HKF.out]) k (.int .i64 z),by unfold setS;rw [HF.out];exact HSPP.out⟩;have hne:T≠gb:=fun e=>owns_neObj (HO3.out.row (kF j)) HK3.out (by rw [HKF.out];simp) (by rw [HKF.out,HGB.out,e];rfl)
   have HK5:Hid ((W4.setCell ⟨gb,k,none⟩ (.int .i64 z)).heap[T]? =some (.cells #[.slice h2.go E.s.globals.length h2.gc,.slice h2.co E.s.chans.length h2.cc,.slice h2.po E.s.procs.length h2.pc,.int .i64 E.s.last,.int .i64 E.s.alone,.int .i64 E.s.claim] 33 (0,0))):=Lib.hid ((heap_setCell_other _ _ _ _ hne).trans ((HB4.out.block _ (lt_of_block HK3.out)).trans HK3.out));have HR5:Hid ((W4.setCell ⟨gb,k,none⟩ (.int .i64 z)).heap[w.heap.size+1]? =some (.cells #[.slice none 0 0,.slice none 0 0,.slice none 0 0,.int .i64 0,.int .i64 0,.int .i64 0] 33 (0,0))):=Lib.hid ((heap_setCell_other _ _ _ _ (by show w.heap.size+1≠gb;have:=HGBL.out.1;omega)).trans ((HB4.out.block _ (lt_of_block HR3.out)).trans HR3.out));have HB5:Hid (Below w.heap.size w (W4.setCell ⟨gb,k,none⟩ (.int .i64 z))):=Lib.hid ((HX3.out.bx.bel.trans (HB4.out.mono HX3.out.bx.bel.size)).setCell (by show w.heap.size≤gb;have:=HGBL.out.1;omega) _);clear hne;go_upto_region 8 with fail
   generalize W4.setCell ⟨gb,k,none⟩ (.int .i64 z)=W5 at HO5 HK5 HR5 HB5 ⊢;clear m1 m2;have HEND:=Lib.hid (store_end (h2:=h2) HTL.out HO5.out HB5.out);have s0:W5.cell? ⟨T,0,none⟩=some (.slice h2.go E.s.globals.length h2.gc):=(cell_of_row _ _ 0 _ _ _ HK5.out).trans rfl;have s1:W5.cell? ⟨T,1,none⟩=some (.slice h2.co E.s.chans.length h2.cc):=(cell_of_row _ _ 1 _ _ _ HK5.out).trans rfl;have s2:W5.cell? ⟨T,2,none⟩=some (.slice h2.po E.s.procs.length h2.pc):=(cell_of_row _ _ 2 _ _ _ HK5.out).trans rfl;have s3:W5.cell? ⟨T,3,none⟩=some (.int .i64 E.s.last):=(cell_of_row _ _ 3 _ _ _ HK5.out).trans rfl;have s4:W5.cell? ⟨T,4,none⟩=some (.int .i64 E.s.alone):=(cell_of_row _ _ 4 _ _ _ HK5.out).trans rfl;have s5:W5.cell? ⟨T,5,none⟩=some (.int .i64 E.s.claim):=(cell_of_row _ _ 5 _ _ _ HK5.out).trans rfl;have q0:=(cell_of_row _ _ 0 _ _ _ HR5.out).trans rfl;have q1:=(cell_of_row _ _ 1 _ _ _ HR5.out).trans rfl;have q2:=(cell_of_row _ _ 2 _ _ _ HR5.out).trans rfl;have q3:=(cell_of_row _ _ 3 _ _ _ HR5.out).trans rfl;have q4:=(cell_of_row _ _ 4 _ _ _ HR5.out).trans rfl;have q5:=(cell_of_row _ _ 5 _ _ _ HR5.out).trans rfl;have t0:=frozen_of_row _ _ 0 _ _ HR5.out;have t1:=frozen_of_row _ _ 1 _ _ HR5.out;have t2:=frozen_of_row _ _ 2 _ _ HR5.out;have t3:=frozen_of_row _ _ 3 _ _ HR5.out;have t4:=frozen_of_row _ _ 4 _ _ HR5.out;have t5:=frozen_of_row _ _ 5 _ _ HR5.out;have HSV:Hid (sV h2 (setS E j k v)=sV h2 E.s):=Lib.hid (by unfold setS;exact sV_put _ _ _ _ _);go_wp2_with fail;refine bodyPost_ret (v:= .tuple #[sV h2 E.s,.int .i64 0]) (by simp [sV,sCells,results,Tryz.results15,go_sem,q0,q1,q2,q3,q4,q5,t0,t1,t2,t3,t4,t5]) rfl ?_;rw [HZ.out];exact ⟨h2,by rw [HSV.out],HEND.out.1,HEND.out.2⟩
end Go.Proofs.YtbhgdlfndamklaaGreatDoor
namespace Go.Proofs.YtbhgdlfndamklaaGreatDoor
open Go.ChangeShapes Go.WideShapes Go.ChangeAt Go.RowKit
theorem list_eq_of {α:Type} {a b:List α} (hl:a.length=b.length) (h:∀j (hj:j < a.length) (hj2:j < b.length),a[j]=b[j]):a=b:=List.ext_getElem hl h
set_option maxRecDepth 100000 in
set_option maxHeartbeats 1000000 in
theorem numbers12H {B:Nat} (a b:List Int) (oa ob:Option Addr) (ca cb:Nat) (w:World) (hB:B≤w.heap.size) (ha:Row B oa 1 (intAt w) a) (hb:Row B ob 1 (intAt w) b):
 Calls Tryz.prog 34 #[.slice oa a.length ca,.slice ob b.length cb] w fun e w'=>e= .returned (.bool (decide (a=b)))∧Below w.heap.size w w':=by
 have HR:=Lib.hid (And.intro ha hb);have HBB:=Lib.hid hB;have la:=ha.1;have lb:=hb.1;have HB0:Hid (Below w.heap.size w w):=Lib.hid (Below.refl _ _);clear ha hb hB;by_cases hl:a.length=b.length;rotate_left
 · have d: ((a.length:Int) != (b.length:Int))=true:=by rw [bne_iff_ne];omega
   have HZ:Hid (decide (a=b)=false):=Lib.hid (decide_eq_false fun e=>hl (by rw [e]));clear hl;go_enter Tryz.func34,Tryz.ntmps34;go_wp2_with fail;go_ret;exact ⟨retB HZ.out.symm,HB0.out⟩
 have d: ((a.length:Int) != (b.length:Int))=false:=by rw [bne_eq_false_iff_eq];omega
 have HL:=Lib.hid hl;have hl1:a.length≤b.length:=by omega
 clear hl;go_enter Tryz.func34,Tryz.ntmps34;go_wp2_with fail;clear d
 go_loopw [5] (fun iv W=>∃i:Nat,iv= .int .i64 i∧i≤a.length∧Hid (∀j (hj:j < a.length) (hj2:j < b.length),j < i→a[j]=b[j])∧Hid (Below w.heap.size w W)) (fun iv _=>a.length - (intOf iv).toNat)
 case atStart=>exact ⟨0,rfl,by omega,Lib.hid fun j _ _ h=>by omega,HB0⟩
 case round=>
  clear HB0;obtain ⟨i,rfl,hi,HJ,HBW⟩:=hrel;have hi0: (0:Int)≤i:=by omega
  by_cases hlt:i < a.length
  · have hlti: (i:Int) < a.length:=by omega
    have hlt2:i < b.length:=by omega
    have hlti2: (i:Int) < b.length:=by omega
    obtain ⟨g1,off1,ho1,hg1,e1⟩:=(HR.out.1.mono fun _ _ _ hg=>intAt.below (HBW.out.mono HBB.out) hg).cell hlt;obtain ⟨g2,off2,ho2,hg2,e2⟩:=(HR.out.2.mono fun _ _ _ hg=>intAt.below (HBW.out.mono HBB.out) hg).cell hlt2;subst ho1 ho2;obtain ⟨x,hx⟩:∃q,a[i]=q:=⟨_,rfl⟩;obtain ⟨y,hy⟩:∃q,b[i]=q:=⟨_,rfl⟩;rw [hx] at e1;rw [hy] at e2;unfold intAt at e1 e2;rw [Nat.mul_one] at e1 e2;have HB3:Hid (∀n,Below w.heap.size w (wr.drewN n)):=Lib.hid fun n=>HBW.out.trans (bdrew (Below.refl _ _) n)
    have HS:Hid (x=y→∀j (hj:j < a.length) (hj2:j < b.length),j < i+1→a[j]=b[j]):=Lib.hid fun h j hj hj2 hji=>by
     by_cases e:j=i
     · subst e;rw [hx,hy,h]
     · exact HJ.out j hj hj2 (by omega)
    have HN:Hid (x≠y→decide (a=b)=false):=Lib.hid fun h=>decide_eq_false fun e=>h (by rw [←hx,←hy];simp only [e])
    clear hx hy hg1 hg2;by_cases z:x=y
    · have d: (x != y)=false:=by rw [bne_eq_false_iff_eq];exact z
      have HZ:=Lib.hid (HS.out z);clear z;go_wp2_with fail;go_quiet (fail);go_wp2_with fail;go_roundw;case rel=>exact ⟨i+1,by go_num,by omega,HZ,Lib.hid (HB3.out _)⟩
      case measure=>simp [intOf];omega
    · have d: (x != y)=true:=by rw [bne_iff_ne];exact z
      have HZ:=Lib.hid (HN.out z);clear z;go_wp2_with fail;go_quiet (fail);go_wp2_with fail;go_ret;exact ⟨retB HZ.out.symm,HB3.out _⟩
  · have hlti:¬ (i:Int) < a.length:=by omega
    have HZ:Hid (decide (a=b)=true):=Lib.hid (decide_eq_true (list_eq_of HL.out fun j hj hj2=>HJ.out j hj hj2 (by omega)));go_wp2_with fail;go_ret;exact ⟨retB HZ.out.symm,HBW.out⟩
def chanEqB (a b:ChanD):Bool:=decide (a.shape=b.shape∧a.queue=b.queue)
set_option maxRecDepth 100000 in
set_option maxHeartbeats 2000000 in
theorem sameChan12H {B:Nat} (a b:ChanD) (oa ob:Option Addr) (ca cb:Nat) (w:World) (hB:B≤w.heap.size) (ha:Row B oa 1 (msgAt B w) a.queue) (hb:Row B ob 1 (msgAt B w) b.queue):
 Calls Tryz.prog 35 #[.agg #[.int .i64 a.shape,.slice oa a.queue.length ca],.agg #[.int .i64 b.shape,.slice ob b.queue.length cb]] w fun e w'=>e= .returned (.bool (chanEqB a b))∧Below w.heap.size w w':=by
 have HR:=Lib.hid (And.intro ha hb);have HBB:=Lib.hid hB;have la:=ha.1;have lb:=hb.1;obtain ⟨CA,hCA⟩:∃c:Array Value,c= #[.int .i64 a.shape,.slice oa a.queue.length ca]:=⟨_,rfl⟩;obtain ⟨CB,hCB⟩:∃c:Array Value,c= #[.int .i64 b.shape,.slice ob b.queue.length cb]:=⟨_,rfl⟩;have HX:Hid (Bq w w.heap.size #[.int .i64 a.shape,.slice oa a.queue.length ca] 91 ((w.alloc (.cells #[.int .i64 a.shape,.slice oa a.queue.length ca] 91)).alloc (.cells #[.int .i64 b.shape,.slice ob b.queue.length cb] 91))∧Bq w (w.heap.size+1) #[.int .i64 b.shape,.slice ob b.queue.length cb] 91 ((w.alloc (.cells #[.int .i64 a.shape,.slice oa a.queue.length ca] 91)).alloc (.cells #[.int .i64 b.shape,.slice ob b.queue.length cb] 91))):=Lib.hid ⟨(Bq.new (Below.refl _ _) _ _).below (ball _),new_at (by simp),(Bq.new (Below.refl _ _) _ _).bel.alloc (by simp) _⟩;clear ha hb hB;go_enter Tryz.func35,Tryz.ntmps35;go_upto_region 1 with fail
 generalize (w.alloc (.cells #[.int .i64 a.shape,.slice oa a.queue.length ca] 91)).alloc (.cells #[.int .i64 b.shape,.slice ob b.queue.length cb] 91)=W0 at HX ⊢;clear hCA hCB;have x0:W0.cell? ⟨w.heap.size,0,none⟩=some (.int .i64 a.shape):=HX.out.1.cell rfl;have x1:W0.cell? ⟨w.heap.size,1,none⟩=some (.slice oa a.queue.length ca):=HX.out.1.cell rfl;have y0:W0.cell? ⟨w.heap.size+1,0,none⟩=some (.int .i64 b.shape):=HX.out.2.cell rfl;have y1:W0.cell? ⟨w.heap.size+1,1,none⟩=some (.slice ob b.queue.length cb):=HX.out.2.cell rfl;by_cases hs:a.shape=b.shape;rotate_left
 · have d: (a.shape != b.shape)=true:=by rw [bne_iff_ne];exact hs
   have HZ:Hid (chanEqB a b=false):=Lib.hid (decide_eq_false fun e=>hs e.1);clear hs;go_wp2_with fail;go_ret;exact ⟨retB HZ.out.symm,HX.out.1.bel⟩
 have d: (a.shape != b.shape)=false:=by rw [bne_eq_false_iff_eq];exact hs
 have HS:=Lib.hid hs;clear hs;by_cases hl:a.queue.length=b.queue.length;rotate_left
 · have d2: ((a.queue.length:Int) != (b.queue.length:Int))=true:=by rw [bne_iff_ne];omega
   have HZ:Hid (chanEqB a b=false):=Lib.hid (decide_eq_false fun e=>hl (by rw [e.2]));clear hl;go_wp2_with fail;go_ret;exact ⟨retB HZ.out.symm,HX.out.1.bel⟩
 have d2: ((a.queue.length:Int) != (b.queue.length:Int))=false:=by rw [bne_eq_false_iff_eq];omega
 have HL:=Lib.hid hl;have hl1:a.queue.length≤b.queue.length:=by omega
 clear hl;go_wp2_with fail;clear d d2 x0 x1 y0 y1
 go_loopw [5] (fun iv W=>∃i:Nat,iv= .int .i64 i∧i≤a.queue.length∧Hid (∀j (hj:j < a.queue.length) (hj2:j < b.queue.length),j < i→a.queue[j]=b.queue[j])∧Hid (Bq w w.heap.size #[.int .i64 a.shape,.slice oa a.queue.length ca] 91 W∧Bq w (w.heap.size+1) #[.int .i64 b.shape,.slice ob b.queue.length cb] 91 W)) (fun iv _=>a.queue.length - (intOf iv).toNat)
 case atStart=>exact ⟨0,rfl,by omega,Lib.hid fun j _ _ h=>by omega,HX⟩
 case round=>
  clear HX;obtain ⟨i,rfl,hi,HJ,HX⟩:=hrel;have hi0: (0:Int)≤i:=by omega
  have x1:wr.cell? ⟨w.heap.size,1,none⟩=some (.slice oa a.queue.length ca):=HX.out.1.cell rfl;by_cases hlt:i < a.queue.length
  · have hlti: (i:Int) < a.queue.length:=by omega
    have hlt2:i < b.queue.length:=by omega
    have hlti2: (i:Int) < b.queue.length:=by omega
    have HQ1:Hid (∀W,Below wr.heap.size wr W→Row B oa 1 (msgAt B W) a.queue):=Lib.hid fun W hb=>HR.out.1.mono fun _ _ _ hg=>msgAt.below ((HX.out.1.bel.trans (hb.mono HX.out.1.bel.size)).mono HBB.out) hg
    have HQ2:Hid (∀W,Below wr.heap.size wr W→Row B ob 1 (msgAt B W) b.queue):=Lib.hid fun W hb=>HR.out.2.mono fun _ _ _ hg=>msgAt.below ((HX.out.1.bel.trans (hb.mono HX.out.1.bel.size)).mono HBB.out) hg
    obtain ⟨g1,off1,ho1,hg1,m1,c1,e1,hr1⟩:=(HQ1.out wr (Below.refl _ _)).cell hlt;obtain ⟨g2,off2,ho2,hg2,m2,c2,e2,hr2⟩:=(HQ2.out wr (Below.refl _ _)).cell hlt2;obtain ⟨x,hx⟩:∃q,a.queue[i]=q:=⟨_,rfl⟩;obtain ⟨y,hy⟩:∃q,b.queue[i]=q:=⟨_,rfl⟩;rw [hx] at e1 hr1;rw [hy] at e2 hr2;rw [Nat.mul_one] at e1 e2;have hBW:B≤wr.heap.size:=Nat.le_trans HBB.out HX.out.1.bel.size;have HC:Hid (∀W,Below wr.heap.size wr W→Calls Tryz.prog 34 #[.slice m1 x.length c1,.slice m2 y.length c2] W fun e w'=>e= .returned (.bool (decide (x=y)))∧Below W.heap.size W w'):=Lib.hid fun W hb=>numbers12H (B:=B) x y m1 m2 c1 c2 W (Nat.le_trans hBW hb.size) (hr1.mono fun _ _ _ hg=>intAt.below (hb.mono hBW) hg) (hr2.mono fun _ _ _ hg=>intAt.below (hb.mono hBW) hg)
    have HS2:Hid (x=y→∀j (hj:j < a.queue.length) (hj2:j < b.queue.length),j < i+1→a.queue[j]=b.queue[j]):=Lib.hid fun h j hj hj2 hji=>by
     by_cases e:j=i
     · subst e;rw [hx,hy,h]
     · exact HJ.out j hj hj2 (by omega)
    have HN:Hid (x≠y→chanEqB a b=false):=Lib.hid fun h=>decide_eq_false fun e=>h (by rw [←hx,←hy];simp only [e.2])
    have HW:Hid (∀W,Below wr.heap.size wr W→W.cell? ⟨w.heap.size,1,none⟩=some (.slice oa a.queue.length ca)∧W.cell? ⟨w.heap.size+1,1,none⟩=some (.slice ob b.queue.length cb)∧W.cell? ⟨g1,off1+i,none⟩=some (.slice m1 x.length c1)∧W.cell? ⟨g2,off2+i,none⟩=some (.slice m2 y.length c2)):=Lib.hid fun W hb=>⟨(HX.out.1.below hb).cell rfl,(HX.out.2.below hb).cell rfl,(hb.cell (p:=⟨g1,off1+i,none⟩) (Nat.lt_of_lt_of_le hg1 hBW)).trans e1,(hb.cell (p:=⟨g2,off2+i,none⟩) (Nat.lt_of_lt_of_le hg2 hBW)).trans e2⟩
    clear hx hy hr1 hr2 hBW;obtain ⟨bb,hbb⟩:∃q,decide (x=y)=q:=⟨_,rfl⟩;have HBQ:=Lib.hid hbb;rw [hbb] at HC;clear hbb;go_upto_region 6 with fail
    refine wp_region_kept (by kernel_rfl) (by kernel_rfl) (fun ι hne f hf hcl=> ?_);have z1:∀n,(f n).cell? ⟨w.heap.size,1,none⟩=some (.slice (some ⟨g1,off1,none⟩) a.queue.length ca):=fun n=>by rw [←ho1];exact (HW.out _ (hf n)).1
    have z2:∀n,(f n).cell? ⟨w.heap.size+1,1,none⟩=some (.slice (some ⟨g2,off2,none⟩) b.queue.length cb):=fun n=>by rw [←ho2];exact (HW.out _ (hf n)).2.1
    have z3:∀n,(f n).cell? ⟨g1,off1+i,none⟩=some (.slice m1 x.length c1):=fun n=>(HW.out _ (hf n)).2.2.1
    have z4:∀n,(f n).cell? ⟨g2,off2+i,none⟩=some (.slice m2 y.length c2):=fun n=>(HW.out _ (hf n)).2.2.2
    have HA:=Lib.hid (fun n=>HC.out _ (hf n));have HF:=Lib.hid hcl;clear hcl hf x1 e1 e2 HC ho1 ho2 hg1 hg2
    repeat (go_big_quiet_step ((go_at_call 34;with_reducible exact kept_of HF.out _ (HA.out _))))
    refine wpQuiet_nil ?_;intro W1 hb1;have HX1:Hid (Bq w w.heap.size #[.int .i64 a.shape,.slice oa a.queue.length ca] 91 W1∧Bq w (w.heap.size+1) #[.int .i64 b.shape,.slice ob b.queue.length cb] 91 W1):=Lib.hid ⟨HX.out.1.below hb1,HX.out.2.below hb1⟩;clear hb1 z1 z2 z3 z4 HX HW HQ1 HQ2;cases bb
    · have HZ:=Lib.hid (HN.out (by have:=HBQ.out;rw [decide_eq_false_iff_not] at this;exact this));go_wp2_with fail;go_ret;exact ⟨retB HZ.out.symm,HX1.out.1.bel⟩
    · have HZ:=Lib.hid (HS2.out (by have:=HBQ.out;rw [decide_eq_true_eq] at this;exact this));go_wp2_with fail;go_roundw;case rel=>exact ⟨i+1,by go_num,by omega,HZ,HX1⟩
      case measure=>simp [intOf];omega
  · have hlti:¬ (i:Int) < a.queue.length:=by omega
    have HZ:Hid (chanEqB a b=true):=Lib.hid (decide_eq_true ⟨HS.out,list_eq_of HL.out fun j hj hj2=>HJ.out j hj hj2 (by omega)⟩);go_wp2_with fail;go_ret;exact ⟨retB HZ.out.symm,HX.out.1.bel⟩
end Go.Proofs.YtbhgdlfndamklaaGreatDoor
