/- What the row's list gives, and a world in which it is met. -/
import Derived.Test.YthfldokfnjpkmaaGreatDoorM31
import Derived.Test.YthfldokfnjpkmaaGreatDoorM38
import Derived.Test.YthfldokfnjpkmaaGreatDoorCards
import Derived.Test.YthfldokfnjpkmaaGreatDoorTie
import Derived.Deep.DeepHandedRow
import Derived.Deep.DeepWitnessRowRef
import Derived.Lib.LaidIn
import Derived.Lib.LaidTab
import Derived.LaidLaws
import Derived.Stop.LaidErr
import Derived.Lib.SmallJoins
import Derived.Test.YthfldokfnjpkmaaGreatDoorM50
import Derived.Test.YthfldokfnjpkmaaGreatDoorM51
import Derived.Test.YthfldokfnjpkmaaGreatDoorM42
import Derived.Test.YthfldokfnjpkmaaGreatDoorM43
import Derived.Test.YthfldokfnjpkmaaGreatDoorM19
set_option linter.unusedVariables false
set_option linter.unusedSimpArgs false
namespace Go.Proofs.YthfldokfnjpkmaaGreatDoor
open Go.ChangeShapes Go.WideShapes Go.ChangeAt Go.RowKit
theorem own:ownKnob Tryz.prog.godebug=none:=by kernel_rfl
theorem laidOut:laidOutB Tryz.prog=true:=by kernel_rfl
abbrev laidL:List (String × DataW Unit):=Rows.execElseRow.laid
set_option maxRecDepth 100000 in
set_option maxHeartbeats 2000000 in
theorem none_of (W:World) (hL:laidMet Tryz.prog laidL W):NoneP W:=by
 obtain ⟨ps,⟨g',t',cs,fuel,p,q,hg',ht',hvar,hd,_,_⟩,_⟩:=hL.tail.tail.tail;have hg:Tryz.prog.globalNamed "spinneret/exec.none"=some 0:=by kernel_rfl
 have hty: (Tryz.prog.globals[0]?).map (·.type)=some 39:=by kernel_rfl
 obtain rfl:=Option.some.inj (hg.symm.trans hg');obtain rfl:=Option.some.inj (hty.symm.trans ht');obtain ⟨xs,n,_,hxx,hl,hlen,hf⟩:=DataW.trod_struct Tryz.underlying39 hd;have hC:Tryz.prog.cellsOf 39=6:=by kernel_rfl
 rw [hC] at hl;have hx:xs.map (·.1)= [.lit (.int .i64 (-1)),.lit (.int .i64 (-1)),.lit (.int .i64 (-1)),.lit (.int .i64 (-1)),.lit (.int .i64 (-1)),.lit (.int .i64 0)]:=by
  have h1:=congrArg Prod.fst hxx;injection h1 with h1
  exact h1.symm
 obtain ⟨x0,k0⟩:∃x,xs[0]? =some x:=⟨_,List.getElem?_eq_getElem (by rw [hlen];decide)⟩;have h0:=(hf 0 _ rfl).trans k0;obtain ⟨n0,e0,d0,-⟩:=DataW.trod_int Tryz.underlying3 h0;have y0:n0= (-1):=by
  have h1:=congrArg (fun l=>l[0]?) hx;simp only [List.getElem?_map,k0,d0] at h1;simpa using h1
 have f0:=(one_cs (l:=cs.toList) (o:=0) (by omega) (by kernel_rfl)).symm.trans e0;rw [y0] at f0;have w0:W.cell? ⟨0,0,none⟩=some (.int .i64 (-1)):=by
  rw [World.var?_cell hg hvar 0];have h3:cs.toList[0]'(by omega)= .int .i64 (-1):=by injection f0
  have h4:cs.toList[0]? =some (.int .i64 (-1)):=by rw [List.getElem?_eq_getElem (by omega),h3]
  simpa using h4
 obtain ⟨x1,k1⟩:∃x,xs[1]? =some x:=⟨_,List.getElem?_eq_getElem (by rw [hlen];decide)⟩;have h1:=(hf 1 _ rfl).trans k1;obtain ⟨n1,e1,d1,-⟩:=DataW.trod_int Tryz.underlying3 h1;have y1:n1= (-1):=by
  have h1:=congrArg (fun l=>l[1]?) hx;simp only [List.getElem?_map,k1,d1] at h1;simpa using h1
 have f1:=(one_cs (l:=cs.toList) (o:=1) (by omega) (by kernel_rfl)).symm.trans e1;rw [y1] at f1;have w1:W.cell? ⟨0,1,none⟩=some (.int .i64 (-1)):=by
  rw [World.var?_cell hg hvar 1];have h3:cs.toList[1]'(by omega)= .int .i64 (-1):=by injection f1
  have h4:cs.toList[1]? =some (.int .i64 (-1)):=by rw [List.getElem?_eq_getElem (by omega),h3]
  simpa using h4
 obtain ⟨x2,k2⟩:∃x,xs[2]? =some x:=⟨_,List.getElem?_eq_getElem (by rw [hlen];decide)⟩;have h2:=(hf 2 _ rfl).trans k2;obtain ⟨n2,e2,d2,-⟩:=DataW.trod_int Tryz.underlying3 h2;have y2:n2= (-1):=by
  have h1:=congrArg (fun l=>l[2]?) hx;simp only [List.getElem?_map,k2,d2] at h1;simpa using h1
 have f2:=(one_cs (l:=cs.toList) (o:=2) (by omega) (by kernel_rfl)).symm.trans e2;rw [y2] at f2;have w2:W.cell? ⟨0,2,none⟩=some (.int .i64 (-1)):=by
  rw [World.var?_cell hg hvar 2];have h3:cs.toList[2]'(by omega)= .int .i64 (-1):=by injection f2
  have h4:cs.toList[2]? =some (.int .i64 (-1)):=by rw [List.getElem?_eq_getElem (by omega),h3]
  simpa using h4
 obtain ⟨x3,k3⟩:∃x,xs[3]? =some x:=⟨_,List.getElem?_eq_getElem (by rw [hlen];decide)⟩;have h3:=(hf 3 _ rfl).trans k3;obtain ⟨n3,e3,d3,-⟩:=DataW.trod_int Tryz.underlying3 h3;have y3:n3= (-1):=by
  have h1:=congrArg (fun l=>l[3]?) hx;simp only [List.getElem?_map,k3,d3] at h1;simpa using h1
 have f3:=(one_cs (l:=cs.toList) (o:=3) (by omega) (by kernel_rfl)).symm.trans e3;rw [y3] at f3;have w3:W.cell? ⟨0,3,none⟩=some (.int .i64 (-1)):=by
  rw [World.var?_cell hg hvar 3];have h3:cs.toList[3]'(by omega)= .int .i64 (-1):=by injection f3
  have h4:cs.toList[3]? =some (.int .i64 (-1)):=by rw [List.getElem?_eq_getElem (by omega),h3]
  simpa using h4
 obtain ⟨x4,k4⟩:∃x,xs[4]? =some x:=⟨_,List.getElem?_eq_getElem (by rw [hlen];decide)⟩;have h4:=(hf 4 _ rfl).trans k4;obtain ⟨n4,e4,d4,-⟩:=DataW.trod_int Tryz.underlying3 h4;have y4:n4= (-1):=by
  have h1:=congrArg (fun l=>l[4]?) hx;simp only [List.getElem?_map,k4,d4] at h1;simpa using h1
 have f4:=(one_cs (l:=cs.toList) (o:=4) (by omega) (by kernel_rfl)).symm.trans e4;rw [y4] at f4;have w4:W.cell? ⟨0,4,none⟩=some (.int .i64 (-1)):=by
  rw [World.var?_cell hg hvar 4];have h3:cs.toList[4]'(by omega)= .int .i64 (-1):=by injection f4
  have h4:cs.toList[4]? =some (.int .i64 (-1)):=by rw [List.getElem?_eq_getElem (by omega),h3]
  simpa using h4
 obtain ⟨x5,k5⟩:∃x,xs[5]? =some x:=⟨_,List.getElem?_eq_getElem (by rw [hlen];decide)⟩;have h5:=(hf 5 _ rfl).trans k5;obtain ⟨n5,e5,d5,-⟩:=DataW.trod_int Tryz.underlying37 h5;have y5:n5=0:=by
  have h1:=congrArg (fun l=>l[5]?) hx;simp only [List.getElem?_map,k5,d5] at h1;simpa using h1
 have f5:=(one_cs (l:=cs.toList) (o:=5) (by omega) (by kernel_rfl)).symm.trans e5;rw [y5] at f5;have w5:W.cell? ⟨0,5,none⟩=some (.int .i64 0):=by
  rw [World.var?_cell hg hvar 5];have h3:cs.toList[5]'(by omega)= .int .i64 0:=by injection f5
  have h4:cs.toList[5]? =some (.int .i64 0):=by rw [List.getElem?_eq_getElem (by omega),h3]
  simpa using h4
 exact ⟨w0,w1,w2,w3,w4,w5⟩
def lit1:DataW Unit→Value
 | .lit (.int k z)=> .int k z
 | _=>undef
def row1:DataW Unit→List Value
 | .agg l=>l.map lit1
 | _=>[]
noncomputable def laidWorld (os:Os):World:=
 let w0:=World.holding Tryz.prog os ⟨#[],#[],[]⟩
 let put (h:Array Obj) (g:Nat) (cs:Array Value):Array Obj:=h.modify g fun
  | .cells _ t frozen=> .cells cs t frozen
  | o=>o
 let h1:=put w0.heap 1 (row1 Rows.laid_internal_strconv_uint64pow10).toArray
 let h2:=put h1 2 (row1 Rows.laid_math_bits_deBruijn32tab).toArray
 let h3:=put h2 3 (row1 Rows.laid_math_bits_deBruijn64tab).toArray
 let h4:=put h3 0 (row1 Rows.laid_spinneret_exec_none).toArray
 { w0 with heap:=h4 }
end Go.Proofs.YthfldokfnjpkmaaGreatDoor
namespace Go.Proofs.YthfldokfnjpkmaaGreatDoor
open Go.ChangeShapes Go.WideShapes Go.ChangeAt Go.RowKit
theorem xquiet_load_row {P:Program} {C:World→Prop} {a:Act} {o:Oper} {K:Act→Prop} (ty:TypeId) (x:Operand) (ho:o.op= .load ty x) (g:Nat) (hx:a.eval x= .pointer (some ⟨g,0,none⟩)) (cs:Array Value) (t:TypeId) (fr:Nat × Nat)
 (hg:∀w,C w→w.heap[g]? =some (.cells cs t fr)) (d:TypeDesc) (hu:P.underlying ty=some d) (hd: (match d with | .struct _ | .array _ _=>true | _=>false)=true) (hi: (P.info? ty).map (·.size)=some cs.size) (a':Act) (ha:a'=a.put o.dst (.agg cs)) (hk:K a'):o.quiet P a C K:=
 ⟨_,fun w hw=>by
   unfold Oper.quietAt execOp;simp only [ho,hx,Instr.loadAt,Instr.sureAddr,Sem.run_bind,Sem.run_pure,Result.andThen_ok,run_loadVar_row w g t ty cs fr d (hg w hw) hu hd hi];exact ⟨rfl,rfl⟩,ha ▸ hk⟩
def ElseP (w:World) (e:Ending) (w':World):Prop:=e= .returned (.bool true)∧Below w.heap.size w w'
set_option maxRecDepth 100000 in
set_option maxHeartbeats 8000000 in
theorem elseWalk {h:MH} {hs:SH} {ao:Option Addr} {ac:Nat} {E:EnvD} (w:World) (hd:ED w.heap.size w h hs ao E) (hab:ArgsB E.m) (hno:NoneP w):
 Calls Tryz.prog 6 #[.agg (eCells h hs ao ac E)] w (ElseP w):=by
 obtain ⟨ES,hES⟩:∃c,c=eCells h hs ao ac E:=⟨_,rfl⟩;rw [←hES];have HX:=Lib.hid (XE.new hd hES);have HNO:=Lib.hid hno;have HD:=Lib.hid hd;have HAB:=Lib.hid hab;have HES:=Lib.hid hES;clear hd hab hno hES;go_enter Tryz.func6,Tryz.ntmps6;go_upto_region 1 with fail
 generalize w.alloc (.cells ES 36)=W0 at HX ⊢;go_wp2_with fail;refine (shownC W0 (HNO.out.below HX.out.bel)).mono ?_;rintro e W1 ⟨rfl,hb1⟩;have HX1:=Lib.hid (HX.out.below hb1);clear hb1 HX;have HCK:=Lib.hid (check15H (ac:=ac) HAB.out W1 HX1.out.here);rw [←HES.out] at HCK;go_wp2_with (refine wpList_load_row rfl _ _ rfl _ rfl _ ES _ _ HX1.out.box Tryz.underlying36 rfl HX1.out.info ?_);refine HCK.out.mono ?_;rintro e W2 ⟨rfl,hb2⟩;have HX2:=Lib.hid (HX1.out.below hb2);clear hb2 HX1 HCK;obtain ⟨er,her⟩:∃q,execE E=q:=⟨_,rfl⟩;rw [her];have HER:=Lib.hid her;clear her;by_cases h0:er=0;rotate_left
 · have hd0: (er != 0)=true:=by rw [bne_iff_ne];exact h0
   clear h0;go_wp2_with fail;go_ret;exact ⟨rfl,HX2.out.bel⟩
 subst h0;obtain ⟨hok,hp0,-⟩:=execE_ok HER.out;obtain ⟨k,tk,kl,p,t,l,hpf⟩:=PF.of hok hp0;have HPF:=Lib.hid hpf;clear hok hp0 hpf;have HWC:=Lib.hid (xWaysC (ac:=ac) W2 HX2.out.here (HNO.out.below HX2.out.bel));rw [←HES.out] at HWC;go_wp2_with (refine wpList_load_row rfl _ _ rfl _ rfl _ ES _ _ HX2.out.box Tryz.underlying36 rfl HX2.out.info ?_);refine HWC.out.mono ?_;rintro e W3 ⟨hb3,-,hy⟩;obtain ⟨o,c,rfl,hr⟩:=hy HER.out;have HX3:=Lib.hid (HX2.out.below hb3);have HR:=Lib.hid hr;have HWO:=Lib.hid (ways_of E);obtain ⟨L,hL⟩:∃L,waysF E=L:=⟨_,rfl⟩;rw [hL] at HR HWO ⊢;clear hb3 hy hr HX2 HWC hL;have hLl:L.length≤9223372036854775807:=waysF_len HR.out;go_wp2_with fail;have HX0:Hid (Below W3.heap.size W3 W3):=Lib.hid (Below.refl _ _)
 go_loopw [7] (fun iv W'=>∃i:Nat,iv= .int .i64 i∧i≤L.length∧Hid (Below W3.heap.size W3 W')) (fun iv _=>L.length - (intOf iv).toNat)
 case atStart=>exact ⟨0,rfl,by omega,HX0⟩
 case round=>
  clear HX0;obtain ⟨i,rfl,hi,HB⟩:=hrel;have hi0: (0:Int)≤i:=by omega
  by_cases hlt:i < L.length;rotate_left
  · have hlti:¬ (i:Int) < L.length:=by omega
    have HP:Hid (ElseP w (.returned (.bool true)) wr):=Lib.hid ⟨rfl,(HX3.out.below HB.out).bel⟩;go_wp2_with fail;go_ret;exact HP.out
  have hlti: (i:Int) < L.length:=by omega
  obtain ⟨x,hx⟩:∃x,L[i]? =some x:=⟨_,List.getElem?_eq_getElem hlt⟩;have hrow:=owns_below HR.out HB.out;obtain ⟨g,cap,e⟩:=Joins.ownsRow_form hrow (by omega);injection e with e1 _ e3
  subst e1 e3;have HROW:Hid (∀W,Below wr.heap.size wr W→∀ (j:Nat) (y:WayD),L[j]? =some y→W.cell? ⟨g,j*6,none⟩=some (.int .i64 y.esc)∧W.cell? ⟨g,j*6+1,none⟩=some (.int .i64 y.way)):=Lib.hid fun W hb j y hy=>by
   obtain ⟨z0,z1,-⟩:=way_cells (owns_below hrow hb) hy;exact ⟨z0,z1⟩
  have HXI:=Lib.hid hx;clear hrow hx;rcases HWO.out with ⟨y,hy,hyw,-⟩ | ⟨esc,he1,he2,b,hb⟩
  · have hl1:L.length=1:=by rw [hy];rfl
    have hxy:x=y:=by
     have h1:=HXI.out;rw [hy] at h1;have hi1:i=0:=by omega
     subst hi1;injection h1 with h1
     exact h1.symm
    obtain ⟨z0,z1⟩:=HROW.out wr (Below.refl _ _) i x HXI.out;rw [hxy,hyw] at z1;have hl2: ((L.length:Int) != 1)=false:=by rw [bne_eq_false_iff_eq];omega
    have HL1:=Lib.hid hl1;clear hl1 hy hyw hxy z0;go_wp2_with fail;go_roundw;case rel=>exact ⟨i+1,by go_num,by omega,HB⟩
    case measure=>simp [intOf];omega
  obtain ⟨hxe,kx,tx,htx,hxw,hbx⟩:=hb x (List.mem_of_getElem? HXI.out);have HBB:=Lib.hid hb;have HL0:Hid (∃y0,L[0]? =some y0∧y0.esc=esc):=Lib.hid (by
   obtain ⟨y0,hy0⟩:∃y0,L[0]? =some y0:=⟨_,List.getElem?_eq_getElem (by omega)⟩;exact ⟨y0,hy0,(hb y0 (List.mem_of_getElem? hy0)).1⟩)
  obtain ⟨lo,lc,hlr,hlc⟩:=listH (ac:=ac) esc w HD.out HPF.out (by rw [←HPF.out.e3];exact he2);rw [←HES.out] at hlc;have hll:=hlr.1;obtain ⟨gl,offl,hlo,hgl,hta⟩:=hlr.get htx;subst hlo;have HLC:=Lib.hid hlc;have HKI:Hid (∀ (W:World),Below w.heap.size w W→∀ (j:Nat) (q:TransD),(listE E esc)[j]? =some q→W.cell? ⟨gl,offl+j*9,none⟩=some (.int .i64 q.s.kind)):=Lib.hid fun W hb j q hq=>by
   obtain ⟨gl',offl',e1,hg',hq'⟩:=hlr.get hq;injection e1 with e1
   injection e1 with e1 e2
   subst e1 e2;exact (hb.cell (p:=⟨gl,offl+j*9,none⟩) hg').trans hq'.s.c0
  have hkx:kx < (listE E esc).length:=(List.getElem?_eq_some_iff.1 htx).1;obtain ⟨LL,hLL⟩:∃q,listE E esc=q:=⟨_,rfl⟩;rw [hLL] at HLC HKI hkx hll htx;have HBB2:Hid (∀y ∈ L,y.esc=esc∧∃ (k:Nat) (t:TransD),LL[k]? =some t∧y.way= (k:Int)∧decide (t.s.kind=7)=b):=Lib.hid (by rw [←hLL];exact hb);have hkxi: (kx:Int) < LL.length:=by omega
  have hkx0: (0:Int)≤kx:=by omega
  have HTX:=Lib.hid (And.intro htx (And.intro hbx hxw));obtain ⟨z0,z1⟩:=HROW.out wr (Below.refl _ _) i x HXI.out;rw [hxe] at z0;rw [hxw] at z1;have hdk:decide ((kx:Int) < 0)=false:=decide_eq_false (by omega);clear hb hlr hlc hta hgl hLL htx hbx he1 he2 hxe hxw;have HLE:Hid (∀W,Below wr.heap.size wr W→Below w.heap.size w W):=Lib.hid fun W hb=>(HX3.out.below (HB.out.trans (hb.mono HB.out.size))).bel
  have HXR:=Lib.hid (HX3.out.below HB.out);go_upto_region 12 with fail
  clear z0 z1;refine wp_region_kept (by kernel_rfl) (by kernel_rfl) (fun ι hne f hf hcl=> ?_);have HZE:Hid (∀W,(∃n,W=f n)→W.heap[w.heap.size]? =some (.cells ES 36 (0,0))):=Lib.hid fun W ⟨n,hn⟩=>by rw [hn];exact (HXR.out.below (hf n)).box
  have HINF:Hid ((Tryz.prog.info? 36).map (·.size)=some ES.size):=Lib.hid HXR.out.info;have z1:∀n,(f n).cell? ⟨g,i*6,none⟩=some (.int .i64 esc):=fun n=>by
   have h1:=(HROW.out _ (hf n) i x HXI.out).1;rw [(HBB2.out x (List.mem_of_getElem? HXI.out)).1] at h1;exact h1
  have HA:=Lib.hid (fun n=>HLC.out (f n) (HLE.out _ (hf n)));unfold LstP at HA;have HFF:=Lib.hid hcl;clear hcl hf
  repeat (first | go_big_quiet_skip | (go_big_quiet_want;first | (refine xquiet_load_row 36 _ rfl w.heap.size rfl ES 36 (0,0) HZE.out _ Tryz.underlying36 rfl HINF.out _ rfl ?_;go_simp;go_big_quiet_on) | (go_big_quiet_op;first | go_big_quiet_on | go_big_quiet_call ((go_at_call 21;with_reducible exact kept_of HFF.out _ (HA.out _))))))
  refine wpQuiet_nil ?_;intro W4 hb4;have HB4:=Lib.hid hb4;clear hb4 z1 HZE HINF HA HFF;have hy0:∃y0,L[0]? =some y0∧y0.esc=esc:=HL0.out;obtain ⟨y0,hy0,hy1⟩:=hy0;have z0:=(HROW.out W4 HB4.out i x HXI.out).1;have z1:=(HROW.out W4 HB4.out i x HXI.out).2;have z2:=(HROW.out W4 HB4.out 0 y0 hy0).1;rw [(HBB2.out x (List.mem_of_getElem? HXI.out)).1] at z0;have hxw2:x.way= (kx:Int):=HTX.out.2.2;rw [hxw2] at z1;rw [Nat.zero_mul,hy1] at z2;have hdl:decide ((LL.length:Int)≤ (kx:Int))=false:=decide_eq_false (by omega);have hdl2:decide (LL.length≤kx)=false:=decide_eq_false (by omega);have hLpos: (0:Int) < L.length:=by omega
  have hLpos2:0 < L.length:=by omega
  clear hy0 hy1 hxw2;go_upto_region 13 with fail
  go_quiet (fail)
  try simp only [Exit.inBlock,Exit.then]
  have HB5:Hid (Below wr.heap.size wr (W4.drewN nq)):=Lib.hid (bdrew HB4.out nq);generalize W4.drewN nq=W5 at HB5 ⊢;clear z0 z1 z2 hdl hdl2 HB4;go_wp2_with fail
  go_loopw [9] (fun jv W'=>∃j:Nat,jv= .int .i64 j∧j≤L.length∧Hid (Below wr.heap.size wr W')) (fun jv _=>L.length - (intOf jv).toNat)
  case atStart=>exact ⟨0,rfl,by omega,HB5⟩
  case round=>
   clear HB5;obtain ⟨j,rfl,hj,HBJ⟩:=hrel;have hj0: (0:Int)≤j:=by omega
   by_cases hlt2:j < L.length;rotate_left
   · have hlti2:¬ (j:Int) < L.length:=by omega
     have HBI:Hid (Below W3.heap.size W3 wr):=Lib.hid (HB.out.trans (HBJ.out.mono HB.out.size));go_wp2_with fail;go_roundw;case rel=>exact ⟨i+1,by go_num,by omega,HBI⟩
     case measure=>simp [intOf];omega
   have hlti2: (j:Int) < L.length:=by omega
   obtain ⟨y,hy⟩:∃y,L[j]? =some y:=⟨_,List.getElem?_eq_getElem hlt2⟩;obtain ⟨-,ky,ty,hty,hyw,hby⟩:=HBB2.out y (List.mem_of_getElem? hy);have hkyl:ky < LL.length:=(List.getElem?_eq_some_iff.1 hty).1;have hkyi: (ky:Int) < LL.length:=by omega
   have hky0: (0:Int)≤ky:=by omega
   have z1:=(HROW.out wr HBJ.out i x HXI.out).2;rw [HTX.out.2.2] at z1;have z2:=(HROW.out wr HBJ.out j y hy).2;rw [hyw] at z2;have c1:=HKI.out wr (HLE.out wr HBJ.out) kx tx HTX.out.1;have c2:=HKI.out wr (HLE.out wr HBJ.out) ky ty hty;cases b
   · have hx7: (tx.s.kind == 7)=false:=by
      have:=HTX.out.2.1;rw [decide_eq_false_iff_not] at this;rw [beq_eq_false_iff_ne];exact this
     clear hy hty hyw hby;go_wp2_with fail;go_roundw;case rel=>exact ⟨j+1,by go_num,by omega,HBJ⟩
     case measure=>simp [intOf];omega
   · have hx7: (tx.s.kind == 7)=true:=by
      have:=HTX.out.2.1;rw [decide_eq_true_eq] at this;rw [beq_iff_eq];exact this
     have hy7: (ty.s.kind != 7)=false:=by
      rw [decide_eq_true_eq] at hby;rw [bne_eq_false_iff_eq];exact hby
     clear hy hty hyw hby;go_wp2_with fail;go_roundw;case rel=>exact ⟨j+1,by go_num,by omega,HBJ⟩
     case measure=>simp [intOf];omega
end Go.Proofs.YthfldokfnjpkmaaGreatDoor
namespace Go.Proofs.YthfldokfnjpkmaaGreatDoor
open Go.ChangeShapes Go.WideShapes Go.ChangeAt Go.RowKit
set_option maxRecDepth 100000
variable {H:Type} {enc:TypeId × Value→H} {W:World} {base:Nat} {sp:Nat→Bool} {hd:Bool} {fuel:Nat}
theorem open_modelLB {l:List Value} {y:DataW H × List MemPlace} (hl:l.length=7) (h:DataW.trod enc Tryz.prog W base sp hd fuel 29 l=some y) (hw:Fits 29 y.1):∃h m,l= (mCells h m).toList∧MD W.heap.size W h m∧ArgsB m∧SArgsB m:=by
 have P:=open_fits Tryz.underlying29 h hw;obtain ⟨n0,y0,p0,w0⟩:=P 0 _ rfl;obtain ⟨n1,y1,p1,w1⟩:=P 1 _ rfl;obtain ⟨n2,y2,p2,w2⟩:=P 2 _ rfl;obtain ⟨n3,y3,p3,w3⟩:=P 3 _ rfl;obtain ⟨n4,y4,p4,w4⟩:=P 4 _ rfl;obtain ⟨n5,y5,p5,w5⟩:=P 5 _ rfl;obtain ⟨n6,y6,p6,w6⟩:=P 6 _ rfl;clear P;obtain ⟨o0,l0,c0,e0,r0⟩:=open_sli Tryz.underlying22 (kk:=2) (by kernel_rfl) (by decide) (bb:=16) (by kernel_rfl) (by decide) opens_ty p0 w0;obtain ⟨o1,l1,c1,e1,r1⟩:=open_sli Tryz.underlying23 c_int64.1 (by decide) c_int64.2 (by decide) (opens_int Tryz.underlying2) p1 w1;obtain ⟨o2,l2,c2,e2,r2⟩:=open_sli Tryz.underlying24 (kk:=2) (by kernel_rfl) (by decide) (bb:=32) (by kernel_rfl) (by decide) opens_shape p2 w2;obtain ⟨o3,l3,c3,e3,r3⟩:=open_sli Tryz.underlying25 c_int.1 (by decide) c_int.2 (by decide) (opens_int Tryz.underlying3) p3 w3;obtain ⟨o4,l4,c4,e4,r4⟩:=open_sli Tryz.underlying26 (kk:=10) (by kernel_rfl) (by decide) (bb:=136) (by kernel_rfl) (by decide) opens_procB p4 w4;obtain ⟨v5,e5,_,_⟩:=DataW.trod_int Tryz.underlying3 p5;obtain ⟨o6,l6,c6,e6,r6⟩:=open_sli Tryz.underlying27 (kk:=12) (by kernel_rfl) (by decide) (bb:=144) (by kernel_rfl) (by decide) opens_exprB p6 w6;have f0:=(one_cs (l:=l) (o:=0) (by omega) (by kernel_rfl)).symm.trans e0;have f1:=(one_cs (l:=l) (o:=1) (by omega) (by kernel_rfl)).symm.trans e1;have f2:=(one_cs (l:=l) (o:=2) (by omega) (by kernel_rfl)).symm.trans e2;have f3:=(one_cs (l:=l) (o:=3) (by omega) (by kernel_rfl)).symm.trans e3;have f4:=(one_cs (l:=l) (o:=4) (by omega) (by kernel_rfl)).symm.trans e4;have f5:=(one_cs (l:=l) (o:=5) (by omega) (by kernel_rfl)).symm.trans e5;have f6:=(one_cs (l:=l) (o:=6) (by omega) (by kernel_rfl)).symm.trans e6;clear e0 e1 e2 e3 e4 e5 e6 p0 p1 p2 p3 p4 p5 p6 w0 w1 w2 w3 w4 w5 w6 h hw;obtain ⟨a0,a1,a2,a3,a4,a5,a6,rfl⟩:=seven_of hl;simp only [List.getElem_cons_zero,List.getElem_cons_succ,List.cons.injEq,and_true] at f0 f1 f2 f3 f4 f5 f6;subst f0 f1 f2 f3 f4 f5 f6;exact ⟨⟨o0,c0,o1,c1,o2,c2,o3,c3,o4,c4,o6,c6⟩,⟨l0,l1,l2,l3,l4,v5,l6⟩,rfl,⟨r0,r1,r2,r3,(row_both r4).1,(row_both r6).1⟩,fun x hx=>(row_both r6).2 x hx,fun p hp l hl t ht=>(row_both r4).2 p hp l hl t ht⟩
theorem open_envB {v:Value} {r:Reach} {b0:Nat} {d:DataW H} {p:List MemPlace} (hv:Value.okWide Tryz.prog W r b0 36 v) (h:DataW.Trod enc Tryz.prog W base sp hd 36 v d p) (hw:Fits 36 d):∃h hs ao ac E,v= .agg (eCells h hs ao ac E)∧ED W.heap.size W h hs ao E∧ArgsB E.m∧SArgsB E.m:=by
 obtain ⟨cs,rfl,hsz⟩:=okWide_struct Tryz.underlying36 hv;obtain ⟨l⟩:=cs;have hC:Tryz.prog.cellsOf 36=16:=by kernel_rfl
 have hl:l.length=16:=hsz.trans hC;obtain ⟨fu,hf⟩:=h;have P:=open_fits Tryz.underlying36 hf hw;obtain ⟨n0,y0,p0,w0⟩:=P 0 _ rfl;obtain ⟨n1,y1,p1,w1⟩:=P 1 _ rfl;obtain ⟨n2,y2,p2,w2⟩:=P 2 _ rfl;obtain ⟨n3,y3,p3,w3⟩:=P 3 _ rfl;obtain ⟨n4,y4,p4,w4⟩:=P 4 _ rfl;clear P;have q0: (l.drop 0).take 7= (l.drop 0).take (Tryz.prog.cellsOf 29):=by rw [show Tryz.prog.cellsOf 29=7 by kernel_rfl]
 have q1: (l.drop 7).take 6= (l.drop 7).take (Tryz.prog.cellsOf 33):=by rw [show Tryz.prog.cellsOf 33=6 by kernel_rfl]
 obtain ⟨h1,m,e0,r0,hab,hsab⟩:=open_modelLB (l:=(l.drop 0).take 7) (by simp;omega) (by rw [q0];exact p0) w0;obtain ⟨h2,s,e1,r1⟩:=open_stateL (l:=(l.drop 7).take 6) (by simp;omega) (by rw [q1];exact p1) w1;obtain ⟨v2,e2,_,_⟩:=DataW.trod_int Tryz.underlying3 p2;obtain ⟨v3,e3,_⟩:=DataW.trod_bool Tryz.underlying4 p3;obtain ⟨o4,l4,c4,e4,r4⟩:=open_sli Tryz.underlying34 (kk:=1) (by kernel_rfl) (by decide) (bb:=1) (by kernel_rfl) (by decide) (opens_bool Tryz.underlying4) p4 w4;have f2:=(one_cs (l:=l) (o:=13) (by omega) (by kernel_rfl)).symm.trans e2;have f3:=(one_cs (l:=l) (o:=14) (by omega) (by kernel_rfl)).symm.trans e3;have f4:=(one_cs (l:=l) (o:=15) (by omega) (by kernel_rfl)).symm.trans e4;refine ⟨h1,h2,o4,c4,⟨m,s,v2,v3,l4⟩, ?_,⟨r0,r1,r4⟩,hab,hsab⟩;have hd0:l= (l.drop 0).take 7 ++ ((l.drop 7).take 6 ++ ([l[13]] ++ ([l[14]] ++ [l[15]]))):=by
  have g0: (l.drop 0).take 7 ++ l.drop 7=l:=by rw [List.drop_zero,List.take_append_drop]
  have g1: (l.drop 7).take 6 ++ l.drop 13=l.drop 7:=by
   have:=List.take_append_drop 6 (l.drop 7);rw [List.drop_drop] at this;exact this
  have g2:l.drop 13= [l[13]] ++ ([l[14]] ++ [l[15]]):=by
   rw [List.drop_eq_getElem_cons (by omega:13 < l.length),List.drop_eq_getElem_cons (by omega:14 < l.length),List.drop_eq_getElem_cons (by omega:15 < l.length),List.drop_eq_nil_of_le (by omega)];rfl
  rw [←g2,g1,g0]
 rw [f2,f3,f4,e0,e1] at hd0;rw [hd0];rfl
end Go.Proofs.YthfldokfnjpkmaaGreatDoor
