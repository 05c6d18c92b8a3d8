/- Stores of whole values, as the walk meets them: kept folded. -/
import Derived.Test.YthfldokfnjpkmaaGreatDoorM25
import Derived.Test.YthfldokfnjpkmaaGreatDoorM44
import Derived.Test.YthfldokfnjpkmaaGreatDoorM32
import Derived.Test.YthfldokfnjpkmaaGreatDoorM42
import Derived.Test.YthfldokfnjpkmaaGreatDoorM30
set_option linter.unusedVariables false
set_option linter.unusedSimpArgs false
namespace Go.Proofs.YthfldokfnjpkmaaGreatDoor
open Go.ChangeShapes Go.WideShapes Go.ChangeAt Go.RowKit
def setL (cs:Array Value):Nat→List Value→Array Value
 | _,[]=>cs
 | i,v :: vs=>setL (cs.setIfInBounds i v) (i+1) vs
theorem setL_all:∀ (vs pre rest:List Value),rest.length=vs.length→setL (pre ++ rest).toArray pre.length vs= (pre ++ vs).toArray
 | [],pre,rest,h=>by
   have :rest= []:=List.eq_nil_of_length_eq_zero h;subst this;rfl
 | v :: vs,pre,rest,h=>by
   cases rest with
   | nil=>cases h
   | cons x rest=>
     have e: (pre ++ x :: rest).toArray.setIfInBounds pre.length v= ((pre ++ [v]) ++ rest).toArray:=by
      simp
     unfold setL;rw [e];have h2:=setL_all vs (pre ++ [v]) rest (by simpa using h);rw [List.length_append,List.length_singleton] at h2;rw [h2];simp
theorem setCell_fresh (W:World) (T:TypeId) (cs:Array Value) (i:Nat) (v:Value): (W.alloc (.cells cs T)).setCell ⟨W.heap.size,i,none⟩ v=W.alloc (.cells (cs.setIfInBounds i v) T):=by
 go_simp
theorem setCells_fresh (W:World) (T:TypeId):∀ (vs:List Value) (i:Nat) (cs:Array Value),(W.alloc (.cells cs T)).setCells W.heap.size i vs=W.alloc (.cells (setL cs i vs) T)
 | [],i,cs=>rfl
 | v :: vs,i,cs=>by
   show ((W.alloc (.cells cs T)).setCell ⟨W.heap.size,i,none⟩ v).setCells W.heap.size (i+1) vs=_;rw [setCell_fresh];exact setCells_fresh W T vs (i+1) _
theorem store_single (p:Addr) (v:Value) (W:World): (storeCells p [v] 0).run Tryz.prog W= (store p v).run Tryz.prog W:=by
 have e:p.add 0=p:=by simp [Addr.add]
 simp only [storeCells,e,Sem.run_bind,Sem.run_pure];cases (store p v).run Tryz.prog W <;> rfl
end Go.Proofs.YthfldokfnjpkmaaGreatDoor
namespace Go.Proofs.YthfldokfnjpkmaaGreatDoor.sto
open Go.ChangeShapes Go.WideShapes Go.ChangeAt Go.RowKit
theorem setCells_heap {b:Nat} {T:TypeId} (vs:List Value):∀ (i:Nat) (W:World) (cs:Array Value),W.heap[b]? =some (.cells cs T (0,0))→ (W.setCells b i vs).heap[b]? =some (.cells (setL cs i vs) T (0,0)):=by
 induction vs with
 | nil=>intro i W cs h;exact h
 | cons v vs ih=>intro i W cs h;exact ih _ _ _ (heap_setCell_same W b i cs T v h)
theorem setCells_bel {b n:Nat} {w:World} (hn:n≤b) (vs:List Value):∀ (i:Nat) (W:World),Below n w W→Below n w (W.setCells b i vs):=by
 induction vs with
 | nil=>intro i W h;exact h
 | cons v vs ih=>intro i W h;exact ih _ _ (h.setCell (by exact hn) _)
def ones:List Value→Bool
 | []=>true
 | v :: r=>v.oneCell' && ones r
theorem ones_nil:ones []=true:=by unfold ones;simp
theorem ones_int (k:IntKind) (z:Int) (r:List Value):ones (.int k z :: r)=ones r:=by cases r <;> rfl
theorem ones_bool (b:Bool) (r:List Value):ones (.bool b :: r)=ones r:=by cases r <;> rfl
theorem ones_str (b:ByteArray) (r:List Value):ones (.string b :: r)=ones r:=by cases r <;> rfl
theorem ones_slice (a:Option Addr) (n c:Nat) (r:List Value):ones (.slice a n c :: r)=ones r:=by cases r <;> rfl
theorem ones_mem:∀ {l:List Value},ones l=true→∀v ∈ l,v.oneCell'=true
 | [],_,v,hv=>by cases hv
 | x :: r,h,v,hv=>by
   unfold ones at h;rw [Bool.and_eq_true] at h;rcases List.mem_cons.1 hv with rfl | hv
   · exact h.1
   · exact ones_mem h.2 v hv
def sameLen:List Value→List Value→Bool
 | [],[]=>true
 | _ :: l,_ :: r=>sameLen l r
 | _,_=>false
theorem sameLen_nil:sameLen [] []=true:=by unfold sameLen;simp
theorem sameLen_cons (a b:Value) (l r:List Value):sameLen (a :: l) (b :: r)=sameLen l r:=by cases l <;> rfl
theorem sameLen_eq:∀ {l r:List Value},sameLen l r=true→l.length=r.length
 | [],[],_=>rfl
 | _ :: l,_ :: r,h=>by rw [List.length_cons,List.length_cons,sameLen_eq (l:=l) (r:=r) h]
 | [],_ :: _,h=>by cases h
 | _ :: _,[],h=>by cases h
def lZ:Array Value:=#[.slice none 0 0,.slice none 0 0,.bool false,.bool false,.bool false,.bool false,.bool false]
theorem store_blk {W:World} {b:Nat} {vs:List Value} (h:W.heap[b]? =some (.cells lZ 70 (0,0))) (hl:sameLen ([.slice none 0 0,.slice none 0 0,.bool false,.bool false,.bool false,.bool false,.bool false]:List Value) vs=true) (h1:ones vs=true):
 (storeCells ⟨b,0,none⟩ vs 0).run Tryz.prog W= .ok () (W.setCells b 0 vs):=by
 refine (run_storeCells_cells b 0 vs 0 W (fun j hj=> ?_) (fun j hj=>frozen_of_row _ _ _ _ _ h) (ones_mem h1)).trans rfl;rw [cell_of_row _ _ _ _ _ _ h];have h15:lZ.size=7:=rfl;have h16:7=vs.length:=sameLen_eq hl;have h2:j < lZ.size:=by omega
 simp [h2]
theorem store_fresh (W:World) (T:TypeId) (cs:Array Value) (vs:List Value) (hl:sameLen cs.toList vs=true) (h1:ones vs=true):
 (storeCells ⟨W.heap.size,0,none⟩ vs 0).run Tryz.prog (W.alloc (.cells cs T))= .ok () (W.alloc (.cells vs.toArray T)):=by
 refine (run_storeCells_cells W.heap.size 0 vs 0 _ (fun j hj=> ?_) (fun j hj=>frozen_of_row _ _ _ _ _ (heap_alloc_new W _)) (ones_mem h1)).trans ?_
 · rw [cell_of_row _ _ _ _ _ _ (heap_alloc_new W _)];have h2:j < cs.size:=by rw [←Array.length_toList,sameLen_eq hl];exact hj
   simp [h2]
 · rw [setCells_fresh,Nat.zero_add];have h3:=setL_all vs [] cs.toList (sameLen_eq hl);simp only [List.nil_append,List.length_nil,Array.toArray_toList] at h3;rw [h3]
theorem store_freshD (W:World) (T:TypeId) (cs:Array Value) (vs:List Value) (hl:sameLen cs.toList vs=true) (h1:ones vs=true):
 (storeCells ⟨W.heap.size,0,none⟩ vs 0).run Tryz.prog (W.alloc (.cells cs T)).drew= .ok () (W.alloc (.cells vs.toArray T)).drew:=store_fresh W.drew T cs vs hl h1
theorem seven_heap {W:World} {b:Nat} (h:W.heap[b]? =some (.cells lZ 70 (0,0))) (v0 v1 v2 v3 v4 v5 v6:Value): (W.setCells b 0 [v0,v1,v2,v3,v4,v5,v6]).heap[b]? =some (.cells #[v0,v1,v2,v3,v4,v5,v6] 70 (0,0)):=
 (setCells_heap _ 0 _ _ h).trans rfl
end Go.Proofs.YthfldokfnjpkmaaGreatDoor.sto
namespace Go.Proofs.YthfldokfnjpkmaaGreatDoor
open Go.ChangeShapes Go.WideShapes Go.ChangeAt Go.RowKit
set_option maxHeartbeats 2000000 in
set_option maxRecDepth 100000 in
theorem check15H {h:MH} {hs:SH} {ao:Option Addr} {ac:Nat} {E:EnvD} (hab:ArgsB E.m) (w:World) (hd:ED w.heap.size w h hs ao E):
 Calls Tryz.prog 9 #[.agg (eCells h hs ao ac E)] w fun e w'=>e= .returned (.int .i64 (execE E))∧Below w.heap.size w w':=by
 obtain ⟨ES,hES⟩:∃c,c=eCells h hs ao ac E:=⟨_,rfl⟩;rw [←hES];have HX:=Lib.hid (XE.new hd hES);have HAB:=Lib.hid hab;have hsl:=hd.sd.procs.1;clear hd hES hab;go_enter Tryz.func9,Tryz.ntmps9;go_upto_region 1 with fail
 generalize w.alloc (.cells ES 36)=W0 at HX ⊢;have c0:W0.cell? ⟨w.heap.size,0,none⟩=some _:=HX.out.cell rfl;have c1:W0.cell? ⟨w.heap.size,1,none⟩=some _:=HX.out.cell rfl;have c2:W0.cell? ⟨w.heap.size,2,none⟩=some _:=HX.out.cell rfl;have c3:W0.cell? ⟨w.heap.size,3,none⟩=some _:=HX.out.cell rfl;have c4:W0.cell? ⟨w.heap.size,4,none⟩=some _:=HX.out.cell rfl;have c5:W0.cell? ⟨w.heap.size,5,none⟩=some _:=HX.out.cell rfl;have c6:W0.cell? ⟨w.heap.size,6,none⟩=some _:=HX.out.cell rfl;have c7:W0.cell? ⟨w.heap.size,7,none⟩=some _:=HX.out.cell rfl;have c8:W0.cell? ⟨w.heap.size,8,none⟩=some _:=HX.out.cell rfl;have c9:W0.cell? ⟨w.heap.size,9,none⟩=some _:=HX.out.cell rfl;have c10:W0.cell? ⟨w.heap.size,10,none⟩=some _:=HX.out.cell rfl;have c11:W0.cell? ⟨w.heap.size,11,none⟩=some _:=HX.out.cell rfl;have c12:W0.cell? ⟨w.heap.size,12,none⟩=some _:=HX.out.cell rfl;go_wp2_with fail;have HSC:=Lib.hid (check12H HAB.out W0 HX.out.bel.size HX.out.ed.md HX.out.ed.sd);unfold mV mCells sV sCells at HSC;refine HSC.out.mono ?_;rintro e W1 ⟨rfl,hb1⟩;have HX1:=Lib.hid (HX.out.below hb1);clear hb1 HSC HX c0 c1 c2 c3 c4 c5 c6 c7 c8 c9 c10 c11 c12;obtain ⟨er,her⟩:∃q,stateE E.m E.s=q:=⟨_,rfl⟩;rw [her];have HV:Hid (execE E=if er≠0 then er else if E.pid < 0∨ (E.s.procs.length:Int)≤E.pid then 42 else 0):=Lib.hid (by unfold execE;rw [her]);clear her;have c9:W1.cell? ⟨w.heap.size,9,none⟩=some (.slice hs.po E.s.procs.length hs.pc):=HX1.out.cell rfl;have c13:W1.cell? ⟨w.heap.size,13,none⟩=some (.int .i64 E.pid):=HX1.out.cell rfl;by_cases h0:er=0;rotate_left
 · have hd0: (er != 0)=true:=by rw [bne_iff_ne];exact h0
   have HR:Hid (execE E=er):=Lib.hid (by rw [HV.out,if_pos h0]);go_wp2_with fail;go_ret;exact ⟨retI HR.out.symm,HX1.out.bel⟩
 have hd0: (er != 0)=false:=by rw [bne_eq_false_iff_eq];exact h0
 subst h0;by_cases h1:E.pid < 0
 · have hd1:decide (E.pid < 0)=true:=decide_eq_true h1;have HR:Hid (execE E=42):=Lib.hid (by rw [HV.out,if_neg (by simp),if_pos (.inl h1)]);go_wp2_with fail;go_ret;exact ⟨retI HR.out.symm,HX1.out.bel⟩
 have hd1:decide (E.pid < 0)=false:=decide_eq_false h1;by_cases h2: (E.s.procs.length:Int)≤E.pid
 · have hd2:decide ((E.s.procs.length:Int)≤E.pid)=true:=decide_eq_true h2;have HR:Hid (execE E=42):=Lib.hid (by rw [HV.out,if_neg (by simp),if_pos (.inr h2)]);go_wp2_with fail;go_ret;exact ⟨retI HR.out.symm,HX1.out.bel⟩
 · have hd2:decide ((E.s.procs.length:Int)≤E.pid)=false:=decide_eq_false h2;have HR:Hid (execE E=0):=Lib.hid (by rw [HV.out,if_neg (by simp),if_neg (by rintro (h | h);exact h1 h;exact h2 h)]);go_wp2_with fail;go_ret;exact ⟨retI HR.out.symm,HX1.out.bel⟩
theorem tenS {w W:World} {B b:Nat} (h:Below B w W) (hb:B≤b) (v0 v1 v2 v3 v4 v5 v6 v7 v8 v9:Value):Below B w ((((((((((W.setCell ⟨b,0,none⟩ v0).setCell ⟨b,1,none⟩ v1).setCell ⟨b,2,none⟩ v2).setCell ⟨b,3,none⟩ v3).setCell ⟨b,4,none⟩ v4).setCell ⟨b,5,none⟩ v5).setCell ⟨b,6,none⟩ v6).setCell ⟨b,7,none⟩ v7).setCell ⟨b,8,none⟩ v8).setCell ⟨b,9,none⟩ v9):=
 (((((((((h.setCell hb _).setCell hb _).setCell hb _).setCell hb _).setCell hb _).setCell hb _).setCell hb _).setCell hb _).setCell hb _).setCell hb _
set_option maxHeartbeats 2000000 in
set_option maxRecDepth 100000 in
theorem typH {h:MH} {hs:SH} {ao:Option Addr} {ac:Nat} {E:EnvD} {k tk kl:Nat} {p:ProcessD} {t:ProcD} {l:LocD} (w:World) (hd:ED w.heap.size w h hs ao E) (hf:PF E k tk kl p t l):
 ∃v0 v1 v2 v3 v5 v6 v7 v8 v9:Value,∃g3 off3 c3:Nat,t.locs.length≤140737488355328∧g3 < w.heap.size∧locAt w.heap.size w g3 (off3+kl*7) l∧∀W,Below w.heap.size w W→
  Calls Tryz.prog 26 #[.agg (eCells h hs ao ac E)] W fun e W'=>e= .returned (.agg #[v0,v1,v2,v3,.slice (some ⟨g3,off3,none⟩) t.locs.length c3,v5,v6,v7,v8,v9])∧Below W.heap.size W W':=by
 obtain ⟨g,off,ho,hg,hpa⟩:=hd.sd.procs.get hf.hp;obtain ⟨g2,off2,ho2,hg2,hta⟩:=hd.md.procs.get hf.ht;obtain ⟨o3,c3,hl1,hl2⟩:=hta.locs;obtain ⟨g3,off3,rfl,hg3,hla⟩:=hl2.get hf.hl;obtain ⟨fo,fc,hfr,-⟩:=hta.frame;obtain ⟨io,ic,hin,-⟩:=hta.init;refine ⟨.string t.name,.int .i64 t.params,.slice fo t.frame.length fc,.slice io t.init.length ic,.int .i64 t.start,.int .i64 t.final,.int .i64 t.active,.int .i64 t.prio,.int .i64 t.provided,g3,off3,c3,hl2.1,hg3,hla,fun W hb=> ?_⟩;obtain ⟨ES,hES⟩:∃c,c=eCells h hs ao ac E:=⟨_,rfl⟩;rw [←hES];have hd2:=(hd.below hb).lift2 hb.size;have HX:=Lib.hid ((XE.new hd2 hES).below (ball (.cells #[.string ⟨#[]⟩,.int .i64 0,.slice none 0 0,.slice none 0 0,.slice none 0 0,.int .i64 0,.int .i64 0,.int .i64 0,.int .i64 0,.int .i64 0] 73)));have HRB:Hid (((W.alloc (.cells ES 36)).alloc (.cells #[.string ⟨#[]⟩,.int .i64 0,.slice none 0 0,.slice none 0 0,.slice none 0 0,.int .i64 0,.int .i64 0,.int .i64 0,.int .i64 0,.int .i64 0] 73)).heap[W.heap.size+1]? =some (.cells #[.string ⟨#[]⟩,.int .i64 0,.slice none 0 0,.slice none 0 0,.slice none 0 0,.int .i64 0,.int .i64 0,.int .i64 0,.int .i64 0,.int .i64 0] 73 (0,0))):=Lib.hid (at_new (by simp));have hkl:=(List.getElem?_eq_some_iff.1 hf.hp).1;have htl:=(List.getElem?_eq_some_iff.1 hf.ht).1;have hki: (k:Int) < E.s.procs.length:=by omega
 have hti: (tk:Int) < E.m.procs.length:=by omega
 have hk0: (0:Int)≤k:=by omega
 have ht0: (0:Int)≤tk:=by omega
 have hpl:=hd.sd.procs.1;have hml:=hd.md.procs.1;have HCE:Hid (∀W',Below W.heap.size W W'→W'.cell? ⟨g,off+k*4,none⟩=some (.int .i64 tk)∧W'.cell? ⟨g2,off2+tk*10,none⟩=some (.string t.name)∧W'.cell? ⟨g2,off2+tk*10+1,none⟩=some (.int .i64 t.params)∧W'.cell? ⟨g2,off2+tk*10+2,none⟩=some (.slice fo t.frame.length fc)∧W'.cell? ⟨g2,off2+tk*10+3,none⟩=some (.slice io t.init.length ic)∧W'.cell? ⟨g2,off2+tk*10+4,none⟩=some (.slice (some ⟨g3,off3,none⟩) t.locs.length c3)∧W'.cell? ⟨g2,off2+tk*10+5,none⟩=some (.int .i64 t.start)∧W'.cell? ⟨g2,off2+tk*10+6,none⟩=some (.int .i64 t.final)∧W'.cell? ⟨g2,off2+tk*10+7,none⟩=some (.int .i64 t.active)∧W'.cell? ⟨g2,off2+tk*10+8,none⟩=some (.int .i64 t.prio)∧W'.cell? ⟨g2,off2+tk*10+9,none⟩=some (.int .i64 t.provided)):=Lib.hid fun W' hb'=>by
  have hbw:=hb.trans (hb'.mono hb.size);have k2:∀ (i:Nat) (v:Value),w.cell? ⟨g2,i,none⟩=some v→W'.cell? ⟨g2,i,none⟩=some v:=fun i v hv=>(hbw.cell (p:=⟨g2,i,none⟩) hg2).trans hv
  exact ⟨(hbw.cell (p:=⟨g,off+k*4,none⟩) hg).trans (by rw [←hf.etk];exact hpa.c0),k2 _ _ hta.c0,k2 _ _ hta.c1,k2 _ _ hfr,k2 _ _ hin,k2 _ _ hl1,k2 _ _ hta.c5,k2 _ _ hta.c6,k2 _ _ hta.c7,k2 _ _ hta.c8,k2 _ _ hta.c9⟩
 have HPI:=Lib.hid hf.pid;have HO:=Lib.hid (And.intro ho ho2);clear hd hf hb hpa hta hl1 hl2 hla hfr hin hd2 hES ho ho2 hg hg2 hg3;go_enter Tryz.func26,Tryz.ntmps26;go_upto_region 1 with fail
 generalize (W.alloc (.cells ES 36)).alloc (.cells #[.string ⟨#[]⟩,.int .i64 0,.slice none 0 0,.slice none 0 0,.slice none 0 0,.int .i64 0,.int .i64 0,.int .i64 0,.int .i64 0,.int .i64 0] 73)=W0 at HX HRB ⊢;have HQ:Hid (∀W',Below W0.heap.size W0 W'→W'.cell? ⟨W.heap.size,4,none⟩=some (.slice (some ⟨g2,off2,none⟩) E.m.procs.length h.pc)∧W'.cell? ⟨W.heap.size,9,none⟩=some (.slice (some ⟨g,off,none⟩) E.s.procs.length hs.pc)∧W'.cell? ⟨W.heap.size,13,none⟩=some (.int .i64 k)∧Below W.heap.size W W'):=Lib.hid fun W' hb'=>by
  have hx:=HX.out.below hb';exact ⟨by rw [←HO.out.2];exact hx.cell rfl,by rw [←HO.out.1];exact hx.cell rfl,by rw [←HPI.out];exact hx.cell rfl,hx.bel⟩
 refine wp_region_kept_tail 13 (by kernel_rfl) (by kernel_rfl) (fun ι hne' f hf hcl=> ?_);simp only [List.take_succ_cons,List.take_zero,List.drop_succ_cons,List.drop_zero];have y0:=fun n=>(HQ.out _ (hf n)).1
 have y1:=fun n=>(HQ.out _ (hf n)).2.1
 have y2:=fun n=>(HQ.out _ (hf n)).2.2.1
 have x0:=fun n=>(HCE.out _ (HQ.out _ (hf n)).2.2.2).1
 have x1:=fun n=>(HCE.out _ (HQ.out _ (hf n)).2.2.2).2.1
 have x2:=fun n=>(HCE.out _ (HQ.out _ (hf n)).2.2.2).2.2.1
 have x3:=fun n=>(HCE.out _ (HQ.out _ (hf n)).2.2.2).2.2.2.1
 have x4:=fun n=>(HCE.out _ (HQ.out _ (hf n)).2.2.2).2.2.2.2.1
 have x5:=fun n=>(HCE.out _ (HQ.out _ (hf n)).2.2.2).2.2.2.2.2.1
 have x6:=fun n=>(HCE.out _ (HQ.out _ (hf n)).2.2.2).2.2.2.2.2.2.1
 have x7:=fun n=>(HCE.out _ (HQ.out _ (hf n)).2.2.2).2.2.2.2.2.2.2.1
 have x8:=fun n=>(HCE.out _ (HQ.out _ (hf n)).2.2.2).2.2.2.2.2.2.2.2.1
 have x9:=fun n=>(HCE.out _ (HQ.out _ (hf n)).2.2.2).2.2.2.2.2.2.2.2.2.1
 have x10:=fun n=>(HCE.out _ (HQ.out _ (hf n)).2.2.2).2.2.2.2.2.2.2.2.2.2
 clear hcl hf
 repeat (go_big_quiet_step (fail))
 refine wpQuiet_nil ?_;intro W6 hb6;clear y0 y1 y2 x0 x1 x2 x3 x4 x5 x6 x7 x8 x9 x10;have xr:=(hb6.block _ (lt_of_block HRB.out)).trans HRB.out;have HBE:=Lib.hid (HQ.out W6 hb6).2.2.2;have q0:=(cell_of_row _ _ 0 _ _ _ xr).trans rfl;have t0:=frozen_of_row _ _ 0 _ _ xr;have q1:=(cell_of_row _ _ 1 _ _ _ xr).trans rfl;have t1:=frozen_of_row _ _ 1 _ _ xr;have q2:=(cell_of_row _ _ 2 _ _ _ xr).trans rfl;have t2:=frozen_of_row _ _ 2 _ _ xr;have q3:=(cell_of_row _ _ 3 _ _ _ xr).trans rfl;have t3:=frozen_of_row _ _ 3 _ _ xr;have q4:=(cell_of_row _ _ 4 _ _ _ xr).trans rfl;have t4:=frozen_of_row _ _ 4 _ _ xr;have q5:=(cell_of_row _ _ 5 _ _ _ xr).trans rfl;have t5:=frozen_of_row _ _ 5 _ _ xr;have q6:=(cell_of_row _ _ 6 _ _ _ xr).trans rfl;have t6:=frozen_of_row _ _ 6 _ _ xr;have q7:=(cell_of_row _ _ 7 _ _ _ xr).trans rfl;have t7:=frozen_of_row _ _ 7 _ _ xr;have q8:=(cell_of_row _ _ 8 _ _ _ xr).trans rfl;have t8:=frozen_of_row _ _ 8 _ _ xr;have q9:=(cell_of_row _ _ 9 _ _ _ xr).trans rfl;have t9:=frozen_of_row _ _ 9 _ _ xr;clear xr hb6;go_wp2_with fail;refine bodyPost_ret (v:= .agg #[.string t.name,.int .i64 t.params,.slice fo t.frame.length fc,.slice io t.init.length ic,.slice (some ⟨g3,off3,none⟩) t.locs.length c3,.int .i64 t.start,.int .i64 t.final,.int .i64 t.active,.int .i64 t.prio,.int .i64 t.provided]) (by simp [results,Tryz.results26,go_sem,q0,q1,q2,q3,q4,q5,q6,q7,q8,q9,t0,t1,t2,t3,t4,t5,t6,t7,t8,t9]) rfl ?_;exact ⟨rfl,tenS HBE.out (by omega) _ _ _ _ _ _ _ _ _ _⟩
theorem run_locs (W:World) (v0 v1 v2 v3 v5 v6 v7 v8 v9:Value) (o:Option Addr) (n c:Nat): (Instr.field 73 (.agg #[v0,v1,v2,v3,.slice o n c,v5,v6,v7,v8,v9]) 4).run Tryz.prog W= .ok (.slice o n c) W:=by
 unfold Instr.field;simp [go_sem,Tryz.underlying73,Tryz.underlying71,part,asAgg]
theorem sevenS {w W:World} {B b:Nat} (h:Below B w W) (hb:B≤b) (v0 v1 v2 v3 v4 v5 v6:Value):Below B w (((((((W.setCell ⟨b,0,none⟩ v0).setCell ⟨b,1,none⟩ v1).setCell ⟨b,2,none⟩ v2).setCell ⟨b,3,none⟩ v3).setCell ⟨b,4,none⟩ v4).setCell ⟨b,5,none⟩ v5).setCell ⟨b,6,none⟩ v6):=
 ((((((h.setCell hb _).setCell hb _).setCell hb _).setCell hb _).setCell hb _).setCell hb _).setCell hb _
theorem sevenB {W:World} {b:Nat} {cs:Array Value} {T:TypeId} (hz:W.heap[b]? =some (.cells cs T (0,0))) (v0 v1 v2 v3 v4 v5 v6:Value): (((((((W.setCell ⟨b,0,none⟩ v0).setCell ⟨b,1,none⟩ v1).setCell ⟨b,2,none⟩ v2).setCell ⟨b,3,none⟩ v3).setCell ⟨b,4,none⟩ v4).setCell ⟨b,5,none⟩ v5).setCell ⟨b,6,none⟩ v6).heap[b]? =some (.cells (((((((cs.setIfInBounds 0 v0).setIfInBounds 1 v1).setIfInBounds 2 v2).setIfInBounds 3 v3).setIfInBounds 4 v4).setIfInBounds 5 v5).setIfInBounds 6 v6) T (0,0)):=
 heap_setCell_same _ _ _ _ _ _ (heap_setCell_same _ _ _ _ _ _ (heap_setCell_same _ _ _ _ _ _ (heap_setCell_same _ _ _ _ _ _ (heap_setCell_same _ _ _ _ _ _ (heap_setCell_same _ _ _ _ _ _ (heap_setCell_same _ _ _ _ _ _ hz))))))
theorem lnew_kept {W W1:World} {cs:Array Value} {T:TypeId} (hb:Below (W.alloc (.cells cs T)).heap.size (W.alloc (.cells cs T)) W1):W1.heap[W.heap.size]? =some (.cells cs T (0,0)):=(hb.block _ (by simp)).trans (heap_alloc_new _ _)
theorem lnew_keptD {W W1:World} {cs:Array Value} {T:TypeId} (hb:Below (W.alloc (.cells cs T)).drew.heap.size (W.alloc (.cells cs T)).drew W1):W1.heap[W.heap.size]? =some (.cells cs T (0,0)):=(hb.block _ (by show _ < (W.alloc (.cells cs T)).heap.size;simp)).trans (heap_alloc_new W _)
def LstP (lo:Option Addr) (n lc:Nat) (w:World) (e:Ending) (w':World):Prop:=e= .returned (.slice lo n lc)∧Below w.heap.size w w'
section
attribute [-go_sem] storeCells
attribute [local go_sem] sto.store_blk sto.store_fresh sto.store_freshD store_single sto.sameLen_nil sto.sameLen_cons sto.ones_nil sto.ones_int sto.ones_bool sto.ones_str sto.ones_slice
set_option maxRecDepth 100000 in
set_option maxHeartbeats 2000000 in
theorem listH {h:MH} {hs:SH} {ao:Option Addr} {ac:Nat} {E:EnvD} {k tk kl:Nat} {p:ProcessD} {t:ProcD} {l:LocD} (esc:Int) (w:World) (hd:ED w.heap.size w h hs ao E) (hf:PF E k tk kl p t l) (he2:0≤esc→esc < l.esc.length):
 ∃lo lc,Row w.heap.size lo 9 (transAt w.heap.size w) (listE E esc)∧∀W1,Below w.heap.size w W1→
  Calls Tryz.prog 21 #[.agg (eCells h hs ao ac E),.int .i64 esc] W1 (LstP lo (listE E esc).length lc W1):=by
 obtain ⟨g,off,ho,hg,hpa⟩:=hd.sd.procs.get hf.hp;obtain ⟨PV,g3,off3,c3,hlol,hg3,hla,hfd,htyp⟩:∃ (PV:Value) (g3 off3 c3:Nat),t.locs.length≤140737488355328∧g3 < w.heap.size∧locAt w.heap.size w g3 (off3+kl*7) l∧ (∀W:World,(Instr.field 73 PV 4).run Tryz.prog W= .ok (.slice (some ⟨g3,off3,none⟩) t.locs.length c3) W)∧∀W,Below w.heap.size w W→
  Calls Tryz.prog 26 #[.agg (eCells h hs ao ac E)] W fun e W'=>e= .returned PV∧Below W.heap.size W W':=by
  obtain ⟨v0,v1,v2,v3,v5,v6,v7,v8,v9,g3,off3,c3,h1,h2,h3,h4⟩:=typH (ac:=ac) w hd hf;exact ⟨_,g3,off3,c3,h1,h2,h3,fun W=>run_locs W v0 v1 v2 v3 v5 v6 v7 v8 v9 (some ⟨g3,off3,none⟩) t.locs.length c3,h4⟩
 obtain ⟨oo,oc,ho1,hor⟩:=hla.out;obtain ⟨eo,ec,he1,her⟩:=hla.esc;have hkl:=(List.getElem?_eq_some_iff.1 hf.hp).1;have hll:=(List.getElem?_eq_some_iff.1 hf.hl).1;have hki: (k:Int) < E.s.procs.length:=by omega
 have hlli: (kl:Int) < t.locs.length:=by omega
 have hk0: (0:Int)≤k:=by omega
 have hl0: (0:Int)≤kl:=by omega
 have hpl:=hd.sd.procs.1;have HCE:Hid (∀W',Below w.heap.size w W'→W'.cell? ⟨g,off+k*4+1,none⟩=some (.int .i64 kl)∧W'.cell? ⟨g3,off3+kl*7,none⟩=some (.slice oo l.out.length oc)∧W'.cell? ⟨g3,off3+kl*7+1,none⟩=some (.slice eo l.esc.length ec)∧W'.cell? ⟨g3,off3+kl*7+2,none⟩=some (.bool l.atomic)∧W'.cell? ⟨g3,off3+kl*7+3,none⟩=some (.bool l.dstep)∧W'.cell? ⟨g3,off3+kl*7+4,none⟩=some (.bool l.fin)∧W'.cell? ⟨g3,off3+kl*7+5,none⟩=some (.bool l.accept)∧W'.cell? ⟨g3,off3+kl*7+6,none⟩=some (.bool l.progress)):=Lib.hid fun W' hbw=>by
  have k2:∀ (i:Nat) (v:Value),w.cell? ⟨g3,i,none⟩=some v→W'.cell? ⟨g3,i,none⟩=some v:=fun i v hv=>(hbw.cell (p:=⟨g3,i,none⟩) hg3).trans hv
  exact ⟨(hbw.cell (p:=⟨g,off+k*4+1,none⟩) hg).trans (by rw [←hf.ekl];exact hpa.c1),k2 _ _ ho1,k2 _ _ he1,k2 _ _ hla.c2,k2 _ _ hla.c3,k2 _ _ hla.c4,k2 _ _ hla.c5,k2 _ _ hla.c6⟩
 have HFIN:Hid (∃lo lc,Row w.heap.size lo 9 (transAt w.heap.size w) (listE E esc)∧ ((esc < 0∧listE E esc=l.out∧lo=oo∧lc=oc)∨∃e:Nat,esc=e∧e < l.esc.length∧∃g4 off4,eo=some ⟨g4,off4,none⟩∧∀W',Below w.heap.size w W'→W'.cell? ⟨g4,off4+e,none⟩=some (.slice lo (listE E esc).length lc))):=Lib.hid (by
  unfold listE;rw [hf.e3];by_cases hneg:esc < 0
  · rw [if_pos hneg];exact ⟨oo,oc,hor,.inl ⟨hneg,rfl,rfl,rfl⟩⟩
  · rw [if_neg hneg];obtain ⟨e,rfl⟩:∃e:Nat,esc=e:=⟨esc.toNat,by omega⟩;have hel:e < l.esc.length:=by have:=he2 (by omega);omega
    rw [Int.toNat_natCast,List.getD_eq_getElem?_getD,List.getElem?_eq_getElem hel];obtain ⟨g4,off4,hoe,hg4,hea⟩:=her.cell hel;obtain ⟨lo,lc,hr1,hr2⟩:=hea;rw [Nat.mul_one] at hr1;exact ⟨lo,lc,hr2,.inr ⟨e,rfl,hel,g4,off4,hoe,fun W' hb=>(hb.cell (p:=⟨g4,off4+e,none⟩) hg4).trans hr1⟩⟩)
 obtain ⟨lo,lc,hrow,hfin⟩:=HFIN.out;refine ⟨lo,lc,hrow,fun W1 hb=> ?_⟩;have HF2:=Lib.hid hfin;have hel2:=her.1;have hol2:=hor.1;obtain ⟨ES,hES⟩:∃c,c=eCells h hs ao ac E:=⟨_,rfl⟩;rw [←hES] at htyp ⊢;have HT:=Lib.hid htyp;have HX:=Lib.hid (XE.new ((hd.below hb).lift2 hb.size) hES);have HW1:=Lib.hid hb;have HPI:=Lib.hid hf.pid;have HO:=Lib.hid ho;have HES:=Lib.hid hES;clear hd hf hpa hla ho1 hor he1 her hrow hfin HFIN htyp hES ho hg hg3 he2 hb;go_enter Tryz.func21,Tryz.ntmps21;go_upto_region 1 with fail
 generalize W1.alloc (.cells ES 36)=W0 at HX ⊢;have HQ:Hid (∀W,Below W0.heap.size W0 W→Below W0.heap.size W0 W∧W.cell? ⟨W1.heap.size,0,none⟩=some (.slice h.go E.m.globals.length h.gc)∧W.cell? ⟨W1.heap.size,1,none⟩=some (.slice h.io E.m.init.length h.ic)∧W.cell? ⟨W1.heap.size,2,none⟩=some (.slice h.so E.m.shapes.length h.sc)∧W.cell? ⟨W1.heap.size,3,none⟩=some (.slice h.co E.m.chans.length h.cc)∧W.cell? ⟨W1.heap.size,4,none⟩=some (.slice h.po E.m.procs.length h.pc)∧W.cell? ⟨W1.heap.size,5,none⟩=some (.int .i64 E.m.claim)∧W.cell? ⟨W1.heap.size,6,none⟩=some (.slice h.eo E.m.exprs.length h.ec)∧W.cell? ⟨W1.heap.size,7,none⟩=some (.slice hs.go E.s.globals.length hs.gc)∧W.cell? ⟨W1.heap.size,8,none⟩=some (.slice hs.co E.s.chans.length hs.cc)∧W.cell? ⟨W1.heap.size,9,none⟩=some (.slice (some ⟨g,off,none⟩) E.s.procs.length hs.pc)∧W.cell? ⟨W1.heap.size,10,none⟩=some (.int .i64 E.s.last)∧W.cell? ⟨W1.heap.size,11,none⟩=some (.int .i64 E.s.alone)∧W.cell? ⟨W1.heap.size,12,none⟩=some (.int .i64 E.s.claim)∧W.cell? ⟨W1.heap.size,13,none⟩=some (.int .i64 k)∧W.cell? ⟨W1.heap.size,14,none⟩=some (.bool E.timeout)∧W.cell? ⟨W1.heap.size,15,none⟩=some (.slice ao E.able.length ac)∧W.cell? ⟨g,off+k*4+1,none⟩=some (.int .i64 kl)∧W.cell? ⟨g3,off3+kl*7,none⟩=some (.slice oo l.out.length oc)∧W.cell? ⟨g3,off3+kl*7+1,none⟩=some (.slice eo l.esc.length ec)∧W.cell? ⟨g3,off3+kl*7+2,none⟩=some (.bool l.atomic)∧W.cell? ⟨g3,off3+kl*7+3,none⟩=some (.bool l.dstep)∧W.cell? ⟨g3,off3+kl*7+4,none⟩=some (.bool l.fin)∧W.cell? ⟨g3,off3+kl*7+5,none⟩=some (.bool l.accept)∧W.cell? ⟨g3,off3+kl*7+6,none⟩=some (.bool l.progress)):=Lib.hid fun W hb'=>by
  have hx:=HX.out.below hb';have hw:=HCE.out W (HW1.out.trans (hx.bel.mono HW1.out.size));exact ⟨hb',hx.cell rfl,hx.cell rfl,hx.cell rfl,hx.cell rfl,hx.cell rfl,hx.cell rfl,hx.cell rfl,hx.cell rfl,hx.cell rfl,by rw [←show hs.po=some ⟨g,off,none⟩ from HO.out];exact hx.cell rfl,hx.cell rfl,hx.cell rfl,hx.cell rfl,by rw [←HPI.out];exact hx.cell rfl,hx.cell rfl,hx.cell rfl,hw⟩
 have HTC:Hid (∀W,Below W0.heap.size W0 W→Calls Tryz.prog 26 #[.agg #[.slice h.go E.m.globals.length h.gc,.slice h.io E.m.init.length h.ic,.slice h.so E.m.shapes.length h.sc,.slice h.co E.m.chans.length h.cc,.slice h.po E.m.procs.length h.pc,.int .i64 E.m.claim,.slice h.eo E.m.exprs.length h.ec,.slice hs.go E.s.globals.length hs.gc,.slice hs.co E.s.chans.length hs.cc,.slice (some ⟨g,off,none⟩) E.s.procs.length hs.pc,.int .i64 E.s.last,.int .i64 E.s.alone,.int .i64 E.s.claim,.int .i64 k,.bool E.timeout,.slice ao E.able.length ac]] W fun e W'=>e= .returned PV∧Below W.heap.size W W'):=Lib.hid fun W hb'=>by
  have hx:=HX.out.below hb';have hc:=HT.out W (HW1.out.trans (hx.bel.mono HW1.out.size));rw [HES.out] at hc;unfold eCells at hc;rw [HPI.out,show hs.po=some ⟨g,off,none⟩ from HO.out] at hc;exact hc
 have HBE:Hid (∀W,Below W0.heap.size W0 W→Below W1.heap.size W1 W):=Lib.hid fun W hb'=>(HX.out.below hb').bel
 clear HX HT
 go_cut [5] from 6 to 18 (fun v5 W'=>∃T:Nat,v5= .pointer (some ⟨T,0,none⟩)∧Hid (Below W0.heap.size W0 W'∧T < W'.heap.size∧W'.cell? ⟨T,0,none⟩=some (.slice oo l.out.length oc)∧W'.cell? ⟨T,1,none⟩=some (.slice eo l.esc.length ec)))
 case first=>
  go_region_held3 (fun W=>Below W0.heap.size W0 W∧W.cell? ⟨W1.heap.size,0,none⟩=some (.slice h.go E.m.globals.length h.gc)∧W.cell? ⟨W1.heap.size,1,none⟩=some (.slice h.io E.m.init.length h.ic)∧W.cell? ⟨W1.heap.size,2,none⟩=some (.slice h.so E.m.shapes.length h.sc)∧W.cell? ⟨W1.heap.size,3,none⟩=some (.slice h.co E.m.chans.length h.cc)∧W.cell? ⟨W1.heap.size,4,none⟩=some (.slice h.po E.m.procs.length h.pc)∧W.cell? ⟨W1.heap.size,5,none⟩=some (.int .i64 E.m.claim)∧W.cell? ⟨W1.heap.size,6,none⟩=some (.slice h.eo E.m.exprs.length h.ec)∧W.cell? ⟨W1.heap.size,7,none⟩=some (.slice hs.go E.s.globals.length hs.gc)∧W.cell? ⟨W1.heap.size,8,none⟩=some (.slice hs.co E.s.chans.length hs.cc)∧W.cell? ⟨W1.heap.size,9,none⟩=some (.slice (some ⟨g,off,none⟩) E.s.procs.length hs.pc)∧W.cell? ⟨W1.heap.size,10,none⟩=some (.int .i64 E.s.last)∧W.cell? ⟨W1.heap.size,11,none⟩=some (.int .i64 E.s.alone)∧W.cell? ⟨W1.heap.size,12,none⟩=some (.int .i64 E.s.claim)∧W.cell? ⟨W1.heap.size,13,none⟩=some (.int .i64 k)∧W.cell? ⟨W1.heap.size,14,none⟩=some (.bool E.timeout)∧W.cell? ⟨W1.heap.size,15,none⟩=some (.slice ao E.able.length ac)∧W.cell? ⟨g,off+k*4+1,none⟩=some (.int .i64 kl)∧W.cell? ⟨g3,off3+kl*7,none⟩=some (.slice oo l.out.length oc)∧W.cell? ⟨g3,off3+kl*7+1,none⟩=some (.slice eo l.esc.length ec)∧W.cell? ⟨g3,off3+kl*7+2,none⟩=some (.bool l.atomic)∧W.cell? ⟨g3,off3+kl*7+3,none⟩=some (.bool l.dstep)∧W.cell? ⟨g3,off3+kl*7+4,none⟩=some (.bool l.fin)∧W.cell? ⟨g3,off3+kl*7+5,none⟩=some (.bool l.accept)∧W.cell? ⟨g3,off3+kl*7+6,none⟩=some (.bool l.progress))
   (first | with_reducible assumption | (with_reducible refine HQ.out _ (sto.setCells_bel ?_ _ _ _ (And.left (by with_reducible assumption)));first | with_reducible exact Nat.le_refl _ | with_reducible exact Below.size (And.left (by with_reducible assumption)) | with_reducible exact Below.size (by with_reducible assumption)) | with_reducible exact HQ.out _ (Below.refl _ _).drew | with_reducible exact HQ.out _ (by with_reducible assumption) | with_reducible exact HQ.out _ (Below.alloc (And.left (by with_reducible assumption)) (Below.size (And.left (by with_reducible assumption))) _) | with_reducible exact HQ.out _ (Below.alloc (by with_reducible assumption) (Below.size (by with_reducible assumption)) _) | with_reducible exact HQ.out _ (Below.drew (Below.alloc (Below.refl _ _) (Nat.le_refl _) _)))
   (first
     | (go_simp;go_at_call 26
        with_reducible refine (HTC.out _ (And.left (by assumption))).mono ?_
        rintro e W3 ⟨rfl,hb3⟩;have hB3:Below W0.heap.size W0 W3:=keepS (And.left (by assumption)) hb3
        try (have hz2:=(by with_reducible exact lnew_kept hb3))
        try (have hz2:=(by with_reducible exact lnew_keptD hb3))
        try (have hz3:W3.heap[W0.heap.size]? =some (.cells sto.lZ 70 (0,0)):=hz2)
        try (clear hz2)
        clear hb3))
  all_goals (
   try simp only [Exit.inBlock,Exit.then]
   go_wp2_with fail;go_meet
   first
    | (have hz4:=hz3;exact ⟨_,rfl,Lib.hid ⟨sto.setCells_bel (Nat.le_refl _) _ _ _ hB3,lt_of_block (sto.seven_heap hz3 _ _ _ _ _ _ _),(cell_of_row _ _ 0 _ _ _ (sto.seven_heap hz3 _ _ _ _ _ _ _)).trans rfl,(cell_of_row _ _ 1 _ _ _ (sto.seven_heap hz3 _ _ _ _ _ _ _)).trans rfl⟩⟩)
    | exact ⟨_,rfl,Lib.hid ⟨hB3.alloc hB3.size _,by simp,(cell_of_row _ _ 0 _ _ _ (heap_alloc_new _ _)).trans rfl,(cell_of_row _ _ 1 _ _ _ (heap_alloc_new _ _)).trans rfl⟩⟩)
 case rest=>
  rename World=>Wc
  obtain ⟨T,rfl,HC⟩:=hcut;have c0:=HC.out.2.2.1;have c1:=HC.out.2.2.2;have HBC:Hid (Below W1.heap.size W1 Wc):=Lib.hid (HBE.out Wc HC.out.1);rcases HF2.out with ⟨hneg,hll2,rfl,rfl⟩ | ⟨e,rfl,hel,g4,off4,rfl,hc4⟩
  · have hdn:decide (esc < 0)=true:=decide_eq_true hneg;rw [←hll2] at c0;clear hneg hll2;go_wp2_with fail;go_ret;exact ⟨rfl,HBC.out⟩
  · have hdn:decide ((e:Int) < 0)=false:=decide_eq_false (by omega);have he0: (0:Int)≤e:=by omega
    have heli: (e:Int) < l.esc.length:=by omega
    have c4:=hc4 Wc (HW1.out.trans (HBC.out.mono HW1.out.size));clear hc4;go_wp2_with fail;go_ret;exact ⟨rfl,HBC.out⟩
end
end Go.Proofs.YthfldokfnjpkmaaGreatDoor
