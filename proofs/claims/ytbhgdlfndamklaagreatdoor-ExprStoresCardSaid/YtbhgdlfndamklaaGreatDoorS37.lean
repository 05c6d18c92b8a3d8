/- Which slot a variable has, as the document has it. -/
import Derived.Test.YtbhgdlfndamklaaGreatDoorS36
import Derived.Test.YtbhgdlfndamklaaGreatDoorS18
set_option linter.unusedVariables false
set_option linter.unusedSimpArgs false
namespace Go.Proofs.YtbhgdlfndamklaaGreatDoor
open Go.ChangeShapes Go.WideShapes Go.ChangeAt Go.RowKit
theorem EvH.at {w W:World} {ES:Array Value} {h:MH} {hs:SH} {ao:Option Addr} {ac:Nat} {E:EnvD} {ev:Int→Int × Int} {N:Nat} (he:EvH h hs ao ac E ev N) (k:Zs w ES h hs ao ac E W) (x:Int) (h0:0≤x) (h1:x < N):
 Calls Tryz.prog 9 #[.agg ES,.int .i64 x] W fun e W'=>e= .returned (.tuple #[.int .i64 (ev x).1,.int .i64 (ev x).2])∧Below W.heap.size W W':=by
 rw [k.es];exact he x W h0 h1 k.here
theorem slot_glob {E:EnvD}:slotsL E (-1)=E.s.globals:=by unfold slotsL;rw [if_pos (by omega)]
theorem slot_proc {E:EnvD} {k:Nat} {p:ProcessD} (h:E.s.procs[k]? =some p):slotsL E k=p.frame:=by
 unfold slotsL;rw [if_neg (by omega),Int.toNat_natCast,h];rfl
def vCells (v:VarD) (o:Option Addr) (c:Nat):Array Value:=#[.int .i64 v.scope,.int .i64 v.slot,.int .i64 v.who,.int .i64 v.type,.slice o v.dims.length c]
set_option maxRecDepth 100000 in
set_option maxHeartbeats 4000000 in
theorem slot14H {h:MH} {hs:SH} {ao:Option Addr} {ac:Nat} {E:EnvD} {ev:Int→Int × Int} {N p:Nat} {x:ExprD} (w:World) (hd:ED w.heap.size w h hs ao E) (hok:Ok E) (he:EvH h hs ao ac E ev N) (hx:E.m.exprs[p]? =some x) (hv:x.op=2→VarF x.v) (hwho:x.op=2→x.v.scope=2→0≤x.v.who∧x.v.who < N) (hdi:x.op=2→∀d ∈ x.v.dims,0≤d.i∧d.i < N):
 Calls Tryz.prog 14 #[.agg (eCells h hs ao ac E),.int .i64 p] w fun e w'=>e= .returned (.tuple #[.int .i64 (rslotB E ev x).1,.int .i64 (rslotB E ev x).2.1,.int .i64 (rslotB E ev x).2.2])∧Below w.heap.size w w':=by
 have HE:=Lib.hid he;have HO:=Lib.hid hok;obtain ⟨ES,hES⟩:∃c,c=eCells h hs ao ac E:=⟨_,rfl⟩;have HX:=Lib.hid (Zs.new hd hES);rw [←hES];have hel:=hd.md.exprs.1;have hpl:p < E.m.exprs.length:=(List.getElem?_eq_some_iff.1 hx).1;have hpi: (p:Int) < E.m.exprs.length:=by omega
 have hp0: (0:Int)≤p:=by omega
 clear hd hok he hES;by_cases h2:x.op=2;rotate_left
 · have hq: (x.op != 2)=true:=by rw [bne_iff_ne];exact h2
   have HZ:Hid (rslotB E ev x= (0,0,42)):=Lib.hid (by unfold rslotB;rw [if_pos h2]);have HXG:=Lib.hid hx;clear hx hv hwho hdi h2;go_enter Tryz.func14,Tryz.ntmps14;go_upto_region 1 with fail
   generalize w.alloc (.cells ES 36)=W0 at HX ⊢;obtain ⟨g,off,ho,hg,hxa⟩:=HX.out.ed.md.exprs.get HXG.out;have c6:W0.cell? ⟨w.heap.size,6,none⟩=some (.slice h.eo E.m.exprs.length h.ec):=HX.out.cell rfl;rw [ho] at c6;have x0:=hxa.c0;clear hxa ho hg;go_wp2_with fail;go_ret3;exact ⟨ret3 HZ.out,HX.out.bx.bel⟩
 have hq: (x.op != 2)=false:=by rw [bne_eq_false_iff_eq];exact h2
 have HVF:=Lib.hid (hv h2);have HWH:=Lib.hid (hwho h2);have HD:=Lib.hid (hdi h2);have HOP:=Lib.hid h2;have HXG:=Lib.hid hx;clear hx hv hwho hdi h2;go_enter Tryz.func14,Tryz.ntmps14;go_upto_region 1 with fail
 generalize w.alloc (.cells ES 36)=W0 at HX ⊢;obtain ⟨g,off,ho,hg,hxa⟩:=HX.out.ed.md.exprs.get HXG.out;have c6:W0.cell? ⟨w.heap.size,6,none⟩=some (.slice h.eo E.m.exprs.length h.ec):=HX.out.cell rfl;rw [ho] at c6;have x0:=hxa.c0;have v0:=hxa.v.c0;have v1:=hxa.v.c1;have v2:=hxa.v.c2;have v3:=hxa.v.c3;obtain ⟨dO,dc,v4,hdr⟩:=hxa.v.dims;have HDR:Hid (∀W,Below w.heap.size W0 W→Row w.heap.size dO 3 (dimAt W) x.v.dims):=Lib.hid fun W hb=>hdr.mono fun _ _ _ hg=>dimAt.below hb hg
 have hdl:=hdr.1;clear hxa ho hg hdr;have HX1:=Lib.hid (HX.out.below (ball (.cells (vCells x.v dO dc) 71)));have HB1:Hid (Below w.heap.size W0 (W0.alloc (.cells (vCells x.v dO dc) 71))):=Lib.hid ((ball _).mono HX.out.bx.bel.size);have HV1:Hid (Bq W0 W0.heap.size (vCells x.v dO dc) 71 (W0.alloc (.cells (vCells x.v dO dc) 71))):=Lib.hid (Bq.new (Below.refl _ _) _ _);unfold vCells at HX1 HV1 HB1;go_upto_region 4 with fail
 obtain ⟨T,hT⟩:∃T,W0.heap.size=T:=⟨_,rfl⟩;generalize W0.alloc (.cells #[.int .i64 x.v.scope,.int .i64 x.v.slot,.int .i64 x.v.who,.int .i64 x.v.type,.slice dO x.v.dims.length dc] 71)=W1 at HX1 HV1 HB1 ⊢;rw [hT] at HV1 ⊢;clear c6 x0 v0 v1 v2 v3 v4 hT HX hq;have v0:W1.cell? ⟨T,0,none⟩=some (.int .i64 x.v.scope):=HV1.out.cell rfl;have v1:W1.cell? ⟨T,1,none⟩=some (.int .i64 x.v.slot):=HV1.out.cell rfl;have v2:W1.cell? ⟨T,2,none⟩=some (.int .i64 x.v.who):=HV1.out.cell rfl;have v3:W1.cell? ⟨T,3,none⟩=some (.int .i64 x.v.type):=HV1.out.cell rfl;have v4:W1.cell? ⟨T,4,none⟩=some (.slice dO x.v.dims.length dc):=HV1.out.cell rfl;have HRC:=Lib.hid (reachH x.v dO dc w.heap.size W1 (HDR.out _ HB1.out) HX1.out.bx.bel.size (fun d hd=>by have:=HVF.out.d d hd;omega));go_wp2_with fail;refine HRC.out.mono ?_;rintro e W2 ⟨rfl,hb2⟩;have HX2:=Lib.hid (HX1.out.below hb2);have HV2:=Lib.hid (HV1.out.below hb2);have HB2:=Lib.hid (HB1.out.trans (hb2.mono HX1.out.bx.bel.size));clear hb2 HX1 HV1 HB1 HRC v0 v1 v2 v3 v4;obtain ⟨rc,hrc⟩:∃q,reachL x.v=q:=⟨_,rfl⟩;have HRCH:=Lib.hid hrc;rw [hrc];clear hrc;have v0:W2.cell? ⟨T,0,none⟩=some (.int .i64 x.v.scope):=HV2.out.cell rfl;go_upto_block 0 with fail
 go_cut [9] from 33 to 105 (fun v9 wx=>∃q:Int,v9= .int .i64 q∧ -1≤q∧q < E.s.procs.length∧Hid (pidB E ev x.v= (q,0))∧Hid (¬ ((slotsL E q).length:Int) < rc)∧Hid (Zs w ES h hs ao ac E wx)∧Hid (Bq W0 T #[.int .i64 x.v.scope,.int .i64 x.v.slot,.int .i64 x.v.who,.int .i64 x.v.type,.slice dO x.v.dims.length dc] 71 wx)∧Hid (Below w.heap.size W0 wx))
 case first=>
  have hsc:x.v.scope=0∨x.v.scope=1∨x.v.scope=2:=by have:=HVF.out.s0;have:=HVF.out.s1;omega
  rcases hsc with e | e | e
  · have b0: (x.v.scope == 0)=true:=by simp [e]
    have HP:Hid (pidB E ev x.v= (-1,0)):=Lib.hid (by unfold pidB;rw [if_neg (by simp [e]),if_neg (by simp [e])]);have c7:W2.cell? ⟨w.heap.size,7,none⟩=some (.slice hs.go E.s.globals.length hs.gc):=HX2.out.cell rfl;clear e;by_cases hsh: (E.s.globals.length:Int) < rc
    · have hds:decide ((E.s.globals.length:Int) < rc)=true:=decide_eq_true hsh;have HZ:=Lib.hid (slot_short HOP.out HP.out (by rw [slot_glob,HRCH.out];exact hsh));clear hsh;go_wp2_with fail;go_ret3;exact ⟨ret3 HZ.out,HX2.out.bx.bel⟩
    · have hds:decide ((E.s.globals.length:Int) < rc)=false:=decide_eq_false hsh;have HSH:Hid (¬ ((slotsL E (-1)).length:Int) < rc):=Lib.hid (by rw [slot_glob];exact hsh);clear hsh;go_wp2_with fail;go_meet;case rel=>exact ⟨-1,rfl,by omega,by omega,HP,HSH,HX2,HV2,HB2⟩
  · have b0: (x.v.scope == 0)=false:=by simp [e]
    have b1: (x.v.scope == 1)=true:=by simp [e]
    have c13:W2.cell? ⟨w.heap.size,13,none⟩=some (.int .i64 E.pid):=HX2.out.cell rfl;have c9:W2.cell? ⟨w.heap.size,9,none⟩=some (.slice hs.po E.s.procs.length hs.pc):=HX2.out.cell rfl;have hpr:=HO.out.pid;have hpl2:=HX2.out.ed.sd.procs.1;by_cases hn:E.pid < 0
    · have hnd:decide (E.pid < 0)=true:=decide_eq_true hn;have HZ:Hid (rslotB E ev x= (0,0,42)):=Lib.hid (slot_pid HOP.out (by unfold pidB;rw [if_pos e,if_pos hn]) (by decide));clear e hpr;go_wp2_with fail;go_ret3;exact ⟨ret3 HZ.out,HX2.out.bx.bel⟩
    · obtain ⟨k,hk⟩:∃k:Nat,E.pid=k:=⟨E.pid.toNat,by omega⟩;have HP:Hid (pidB E ev x.v= ((k:Int),0)):=Lib.hid (by unfold pidB;rw [if_pos e,if_neg hn,hk]);have hkl:k < E.s.procs.length:=by omega
      have hki: (k:Int) < E.s.procs.length:=by omega
      have hkz: (0:Int)≤k:=by omega
      have hkd:decide ((k:Int) < 0)=false:=decide_eq_false (by omega);rw [hk] at c13;obtain ⟨pr,hpr2⟩:∃s,E.s.procs[k]? =some s:=⟨_,List.getElem?_eq_getElem hkl⟩;obtain ⟨g1,off1,ho1,hg1,hpa⟩:=HX2.out.ed.sd.procs.get hpr2;obtain ⟨fo,fc,q3,hfr⟩:=hpa.frame;have hfl:=hfr.1;rw [ho1] at c9;have HSL:=Lib.hid (slot_proc hpr2);clear hpa ho1 hpr2 hfr e hn hk hpr hg1;by_cases hsh: (pr.frame.length:Int) < rc
      · have hds:decide ((pr.frame.length:Int) < rc)=true:=decide_eq_true hsh;have HZ:=Lib.hid (slot_short HOP.out HP.out (by rw [HSL.out,HRCH.out];exact hsh));clear hsh;go_wp2_with fail;go_ret3;exact ⟨ret3 HZ.out,HX2.out.bx.bel⟩
      · have hds:decide ((pr.frame.length:Int) < rc)=false:=decide_eq_false hsh;have HSH:Hid (¬ ((slotsL E k).length:Int) < rc):=Lib.hid (by rw [HSL.out];exact hsh);clear hsh;go_wp2_with fail;go_meet;case rel=>exact ⟨(k:Int),rfl,by omega,by omega,HP,HSH,HX2,HV2,HB2⟩
  · have b0: (x.v.scope == 0)=false:=by simp [e]
    have b1: (x.v.scope == 1)=false:=by simp [e]
    have v2:W2.cell? ⟨T,2,none⟩=some (.int .i64 x.v.who):=HV2.out.cell rfl;have HEC:=Lib.hid (HE.out.at HX2.out x.v.who (HWH.out e).1 (HWH.out e).2);obtain ⟨⟨who,er⟩,hev⟩:∃q,ev x.v.who=q:=⟨_,rfl⟩;rw [hev] at HEC;simp only at HEC;have HPB:Hid (pidB E ev x.v=if er≠0 then (0,er) else if who < 0∨ (E.s.procs.length:Int)≤who∨typeOfP E who≠x.v.type then (0,52) else (who,0)):=Lib.hid (by unfold pidB;rw [if_neg (by simp [e]),if_pos e,hev]);clear e hev;go_wp2_with (refine wpList_load_row rfl _ _ rfl _ rfl _ ES _ _ HX2.out.bx.box Tryz.underlying36 rfl HX2.out.info ?_);refine HEC.out.mono ?_;rintro e W3 ⟨rfl,hb3⟩;have HX3:=Lib.hid (HX2.out.below hb3);have HV3:=Lib.hid (HV2.out.below hb3);have HB3:=Lib.hid (HB2.out.trans (hb3.mono HX2.out.bx.bel.size));clear hb3 v0 v2 HEC HX2 HV2 HB2;by_cases h0:er=0;rotate_left
    · have hd0: (er != 0)=true:=by rw [bne_iff_ne];exact h0
      have HZ:Hid (rslotB E ev x= (0,0,er)):=Lib.hid (slot_pid HOP.out (by rw [HPB.out,if_pos h0]) h0);clear h0;go_wp2_with fail;go_ret3;exact ⟨ret3 HZ.out,HX3.out.bx.bel⟩
    have hd0: (er != 0)=false:=by rw [bne_eq_false_iff_eq];exact h0
    subst h0;have c9:W3.cell? ⟨w.heap.size,9,none⟩=some (.slice hs.po E.s.procs.length hs.pc):=HX3.out.cell rfl;have hpl2:=HX3.out.ed.sd.procs.1;have v3:W3.cell? ⟨T,3,none⟩=some (.int .i64 x.v.type):=HV3.out.cell rfl;by_cases h1:who < 0
    · have hd1:decide (who < 0)=true:=decide_eq_true h1;have HZ:Hid (rslotB E ev x= (0,0,52)):=Lib.hid (slot_pid HOP.out (er:=52) (by rw [HPB.out,if_neg (by simp),if_pos (.inl h1)]) (by decide));have HQ:Hid (∀n,Below w.heap.size w (W3.drewN n)):=Lib.hid fun n=>bdrew HX3.out.bx.bel n
      clear h1;go_wp2_with fail;go_quiet (fail);go_wp2_with fail;go_ret3;exact ⟨ret3 HZ.out,HQ.out _⟩
    have hd1:decide (who < 0)=false:=decide_eq_false h1;by_cases h2: (E.s.procs.length:Int)≤who
    · have hd2:decide ((E.s.procs.length:Int)≤who)=true:=decide_eq_true h2;have HZ:Hid (rslotB E ev x= (0,0,52)):=Lib.hid (slot_pid HOP.out (er:=52) (by rw [HPB.out,if_neg (by simp),if_pos (.inr (.inl h2))]) (by decide));have HQ:Hid (∀n,Below w.heap.size w (W3.drewN n)):=Lib.hid fun n=>bdrew HX3.out.bx.bel n
      clear h1 h2;go_wp2_with fail;go_quiet (fail);go_wp2_with fail;go_ret3;exact ⟨ret3 HZ.out,HQ.out _⟩
    obtain ⟨k,rfl⟩:∃k:Nat,who=k:=⟨who.toNat,by omega⟩;have hd2:decide ((E.s.procs.length:Int)≤ (k:Int))=false:=decide_eq_false h2;have hd2n:decide (E.s.procs.length≤k)=false:=decide_eq_false (by omega);have hkl:k < E.s.procs.length:=by omega
    have hki: (k:Int) < E.s.procs.length:=by omega
    have hkz: (0:Int)≤k:=by omega
    obtain ⟨pr,hpr⟩:∃s,E.s.procs[k]? =some s:=⟨_,List.getElem?_eq_getElem hkl⟩;obtain ⟨g1,off1,ho1,hg1,hpa⟩:=HX3.out.ed.sd.procs.get hpr;obtain ⟨fo,fc,q3,hfr⟩:=hpa.frame;have hfl:=hfr.1;have q0:=hpa.c0;rw [ho1] at c9;have HT:=Lib.hid (typeOf_get hpr);have HSL:=Lib.hid (slot_proc hpr);have HQ3:Hid (∀W,Below W3.heap.size W3 W→W.cell? ⟨w.heap.size,9,none⟩=some (.slice (some ⟨g1,off1,none⟩) E.s.procs.length hs.pc)∧W.cell? ⟨g1,off1+k*4+3,none⟩=some (.slice fo pr.frame.length fc)):=Lib.hid fun W hb=>
     ⟨(hb.cell (p:=⟨w.heap.size,9,none⟩) (lt_of_block HX3.out.bx.box)).trans c9,(hb.cell (p:=⟨g1,off1+k*4+3,none⟩) (Nat.lt_of_lt_of_le hg1 HX3.out.bx.bel.size)).trans q3⟩
    have HXD:Hid (∀n,Zs w ES h hs ao ac E (W3.drewN n)∧Bq W0 T #[.int .i64 x.v.scope,.int .i64 x.v.slot,.int .i64 x.v.who,.int .i64 x.v.type,.slice dO x.v.dims.length dc] 71 (W3.drewN n)∧Below w.heap.size W0 (W3.drewN n)∧Below W3.heap.size W3 (W3.drewN n)):=Lib.hid fun n=>
     ⟨HX3.out.drewN n,HV3.out.below (bdrew (Below.refl _ _) n),bdrew HB3.out n,bdrew (Below.refl _ _) n⟩
    clear hpa ho1 hpr hfr h1 h2 hg1 HX3 HV3 HB3;by_cases ht:pr.type=x.v.type;rotate_left
    · have hdt: (pr.type != x.v.type)=true:=by rw [bne_iff_ne];exact ht
      have HZ:Hid (rslotB E ev x= (0,0,52)):=Lib.hid (slot_pid HOP.out (er:=52) (by rw [HPB.out,if_neg (by simp),if_pos (.inr (.inr (by rw [HT.out];exact ht)))]) (by decide));clear ht;go_wp2_with fail;go_quiet (fail);go_wp2_with fail;go_ret3;exact ⟨ret3 HZ.out,(HXD.out _).1.bx.bel⟩
    have hdt: (pr.type != x.v.type)=false:=by rw [bne_eq_false_iff_eq];exact ht
    have HP:Hid (pidB E ev x.v= ((k:Int),0)):=Lib.hid (by rw [HPB.out,if_neg (by simp),if_neg (by rw [HT.out];omega)]);clear ht;go_wp2_with fail;go_quiet (fail);have HXE:=Lib.hid (HXD.out nq);generalize W3.drewN nq=W4 at HXE ⊢;clear c9 v3 q0 q3 hdt HXD;obtain ⟨c9,q3⟩:=HQ3.out _ HXE.out.2.2.2;by_cases hsh: (pr.frame.length:Int) < rc
    · have hds:decide ((pr.frame.length:Int) < rc)=true:=decide_eq_true hsh;have HZ:=Lib.hid (slot_short HOP.out HP.out (by rw [HSL.out,HRCH.out];exact hsh));clear hsh;go_wp2_with fail;go_ret3;exact ⟨ret3 HZ.out,HXE.out.1.bx.bel⟩
    · have hds:decide ((pr.frame.length:Int) < rc)=false:=decide_eq_false hsh;have HSH:Hid (¬ ((slotsL E k).length:Int) < rc):=Lib.hid (by rw [HSL.out];exact hsh);clear hsh;go_wp2_with fail;go_meet;case rel=>exact ⟨(k:Int),rfl,by omega,by omega,HP,HSH,Lib.hid HXE.out.1,Lib.hid HXE.out.2.1,Lib.hid HXE.out.2.2.1⟩
 case rest=>
  obtain ⟨q,rfl,hq0,hq1,HP,HSH,HX3,HV3,HB3⟩:=hcut;clear v0 HX2 HV2 HB2;obtain ⟨R,hR⟩:∃R,dimsF ev x.v.dims x.v.slot=R:=⟨_,rfl⟩;have HV:=Lib.hid (slot_dims HOP.out HP.out (by rw [HRCH.out];exact HSH.out) hR);have HR0:Hid (dimsF ev (x.v.dims.drop 0) x.v.slot=R):=Lib.hid hR;have hsl0:=HVF.out.t0;have hsl1:=HVF.out.t1;have v1:wc.cell? ⟨T,1,none⟩=some (.int .i64 x.v.slot):=HV3.out.cell rfl;clear hR;go_wp2_with fail;clear v1
  go_loopw [12,13] (fun av iv W=>∃ (i:Nat) (a:Int),av= .int .i64 a∧iv= .int .i64 i∧i≤x.v.dims.length∧0≤a∧a≤128+i*16384∧Hid (dimsF ev (x.v.dims.drop i) a=R)∧Hid (Zs w ES h hs ao ac E W)∧Hid (Bq W0 T #[.int .i64 x.v.scope,.int .i64 x.v.slot,.int .i64 x.v.who,.int .i64 x.v.type,.slice dO x.v.dims.length dc] 71 W)∧Hid (Below w.heap.size W0 W)) (fun _ iv _=>x.v.dims.length - (intOf iv).toNat)
  case atStart=>exact ⟨0,x.v.slot,rfl,rfl,by omega,hsl0,by omega,HR0,HX3,HV3,HB3⟩
  case round=>
   clear HR0 HX3 HV3 HB3;obtain ⟨i,a,rfl,rfl,hi,ha0,ha1,HF,HX3,HV3,HB3⟩:=hrel;have hi0: (0:Int)≤i:=by omega
   have hn4:=HVF.out.n;have v4:wr.cell? ⟨T,4,none⟩=some (.slice dO x.v.dims.length dc):=HV3.out.cell rfl;by_cases hlt:i < x.v.dims.length
   · have hlti: (i:Int) < x.v.dims.length:=by omega
     have HS:=Lib.hid (dims_step hlt HF.out);obtain ⟨g1,off1,ho1,hg1,e0,e1,e2⟩:=(HDR.out wr HB3.out).cell hlt;obtain ⟨⟨I,L,S⟩,hdd⟩:∃d,x.v.dims[i]=d:=⟨_,rfl⟩;have hmem: ⟨I,L,S⟩ ∈ x.v.dims:=hdd ▸ List.getElem_mem hlt;have hdf:=HVF.out.d _ hmem;have hdi:=HD.out _ hmem;rw [hdd] at e0 e1 e2 HS;simp only at e0 e1 e2 hdf hdi HS;rw [ho1] at v4;have HQ:Hid (∀W,Below wr.heap.size wr W→W.cell? ⟨T,4,none⟩=some (.slice (some ⟨g1,off1,none⟩) x.v.dims.length dc)∧W.cell? ⟨g1,off1+i*3,none⟩=some (.int .i64 I)∧W.cell? ⟨g1,off1+i*3+1,none⟩=some (.int .i64 L)∧W.cell? ⟨g1,off1+i*3+2,none⟩=some (.int .i64 S)):=Lib.hid fun W hb=>
      have hgg:=Nat.lt_of_lt_of_le hg1 HX3.out.bx.bel.size
      ⟨(hb.cell (p:=⟨T,4,none⟩) (lt_of_block HV3.out.box)).trans v4,(hb.cell (p:=⟨g1,off1+i*3,none⟩) hgg).trans e0,(hb.cell (p:=⟨g1,off1+i*3+1,none⟩) hgg).trans e1,(hb.cell (p:=⟨g1,off1+i*3+2,none⟩) hgg).trans e2⟩
     have HEC:Hid (∀W,Below wr.heap.size wr W→Calls Tryz.prog 9 #[.agg ES,.int .i64 I] W fun e W'=>e= .returned (.tuple #[.int .i64 (ev I).1,.int .i64 (ev I).2])∧Below W.heap.size W W'):=Lib.hid fun W hb=>HE.out.at (HX3.out.below hb) I hdi.1 hdi.2
     obtain ⟨⟨v,er⟩,hev⟩:∃q,ev I=q:=⟨_,rfl⟩;rw [hev] at HEC HS;simp only at HEC HS;clear hmem hdd hev e0 e1 e2 ho1 hg1;go_upto_region 26 with fail
     refine wp_region_kept (by kernel_rfl) (by kernel_rfl) (fun ι hne f hf hcl=> ?_);have HZE:Hid (∀W,(∃n,W=f n)→W.heap[w.heap.size]? =some (.cells ES 36 (0,0))):=Lib.hid fun W ⟨n,hn⟩=>by rw [hn];exact (HX3.out.below (hf n)).bx.box
     have HINF:Hid ((Tryz.prog.info? 36).map (·.size)=some ES.size):=Lib.hid HX3.out.info;have z4:∀n,(f n).cell? ⟨T,4,none⟩=some (.slice (some ⟨g1,off1,none⟩) x.v.dims.length dc):=fun n=>(HQ.out _ (hf n)).1
     have z0:∀n,(f n).cell? ⟨g1,off1+i*3,none⟩=some (.int .i64 I):=fun n=>(HQ.out _ (hf n)).2.1
     have HA:=Lib.hid (fun n=>HEC.out _ (hf n));have HFF:=Lib.hid hcl;clear hcl hf v4 HEC
     repeat (first | go_big_quiet_skip | (go_big_quiet_want;first | (refine quiet_load_row 36 _ rfl w.heap.size rfl ES 36 (0,0) HZE.out _ Tryz.underlying36 rfl HINF.out _ rfl ?_;go_simp;go_big_quiet_on) | (go_big_quiet_op;first | go_big_quiet_on | go_big_quiet_call ((go_at_call 9;with_reducible exact kept_of HFF.out _ (HA.out _))))))
     refine wpQuiet_nil ?_;intro W4 hb4;obtain ⟨y4,-,y1,y2⟩:=HQ.out W4 hb4;have HX4:=Lib.hid (HX3.out.below hb4);have HV4:=Lib.hid (HV3.out.below hb4);have HB4:=Lib.hid (HB3.out.trans (hb4.mono HX3.out.bx.bel.size));clear hb4 z4 z0 HZE HINF HA HFF HX3 HV3 HB3 HQ;by_cases h0:er=0
     · have hd0: (er != 0)=false:=by rw [bne_eq_false_iff_eq];exact h0
       subst h0;by_cases h1:v < 0
       · have hd1:decide (v < 0)=true:=decide_eq_true h1;have HZ:Hid (rslotB E ev x= (0,0,47)):=Lib.hid (by have hr:=HS.out;rw [if_neg (by simp),if_pos (.inl h1)] at hr;rw [HV.out,←hr];rfl);clear h1;go_wp2_with fail;go_ret3;exact ⟨ret3 HZ.out,HX4.out.bx.bel⟩
       · have hd1:decide (v < 0)=false:=decide_eq_false h1;by_cases h2:L≤v
         · have hd2:decide (L≤v)=true:=decide_eq_true h2;have HZ:Hid (rslotB E ev x= (0,0,47)):=Lib.hid (by have hr:=HS.out;rw [if_neg (by simp),if_pos (.inr h2)] at hr;rw [HV.out,←hr];rfl);go_wp2_with fail;go_ret3;exact ⟨ret3 HZ.out,HX4.out.bx.bel⟩
         · have hd2:decide (L≤v)=false:=decide_eq_false h2;have hm0:0≤v*S:=Int.mul_nonneg (by omega) (by omega);have hm1:v*S≤16384:=Int.le_trans (Int.mul_le_mul (by omega:v≤128) (by omega:S≤128) (by omega) (by decide)) (by decide);have HG:Hid (dimsF ev (x.v.dims.drop (i+1)) (a+v*S)=R):=Lib.hid (by have:=HS.out;rw [if_neg (by simp),if_neg (by omega)] at this;exact this);go_wp2_with fail;go_roundw;case rel=>exact ⟨i+1,a+v*S,by go_num,by go_num,by omega,by omega,by omega,HG,HX4,HV4,HB4⟩
           case measure=>simp [intOf];omega
     · have hd0: (er != 0)=true:=by rw [bne_iff_ne];exact h0
       have HZ:Hid (rslotB E ev x= (0,0,er)):=Lib.hid (by have hr:=HS.out;rw [if_pos h0] at hr;rw [HV.out,←hr,if_pos (by exact h0)]);clear h0;go_wp2_with fail;go_ret3;exact ⟨ret3 HZ.out,HX4.out.bx.bel⟩
   · have hlti:¬ (i:Int) < x.v.dims.length:=by omega
     have HE2:=Lib.hid (dims_end hlt HF.out);have HZ:Hid (rslotB E ev x= (q,a,0)):=Lib.hid (by rw [HV.out,HE2.out];rfl);go_wp2_with fail;go_ret3;exact ⟨ret3 HZ.out,HX3.out.bx.bel⟩
end Go.Proofs.YtbhgdlfndamklaaGreatDoor
