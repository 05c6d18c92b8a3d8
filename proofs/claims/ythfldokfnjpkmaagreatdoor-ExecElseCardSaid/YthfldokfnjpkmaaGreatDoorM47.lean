/- exec.gone: the state behind a way. -/
import Derived.Test.YthfldokfnjpkmaaGreatDoorM46
import Derived.Test.YthfldokfnjpkmaaGreatDoorM44
import Derived.Test.YthfldokfnjpkmaaGreatDoorM30
set_option linter.unusedVariables false
set_option linter.unusedSimpArgs false
namespace Go.Proofs.YthfldokfnjpkmaaGreatDoor
open Go.ChangeShapes Go.WideShapes Go.ChangeAt Go.RowKit
def moveS (E:EnvD) (x:WayD) (s:StateD):StateD:=
 if 0≤x.who then putLoc (putLoc s E.pid.toNat (transE E x.esc x.way).to) x.who.toNat (transE (atPid E x.who) x.wesc x.wway).to else putLoc s E.pid.toNat (transE E x.esc x.way).to
def goneR (E:EnvD) (x:WayD) (r:StateD × ByteArray × Int):StateD × ByteArray × Int:=
 if x.way < 0 then (endS (cutS E.s E.pid.toNat) E.pid,⟨#[]⟩,0) else if r.2.2≠0 then (zeroS,⟨#[]⟩,r.2.2) else (endS (moveS E x r.1) E.pid,r.2.1,0)
structure WayF (E:EnvD) (x:WayD):Prop where
 way:0≤x.way
 esc:0≤x.esc→x.esc < (placeE E).esc.length
 tr: (listE E x.esc)[x.way.toNat]? =some (transE E x.esc x.way)
 who:0≤x.who→x.who < E.s.procs.length∧0≤x.wway∧ (0≤x.wesc→x.wesc < (placeE (atPid E x.who)).esc.length)∧ (listE (atPid E x.who) x.wesc)[x.wway.toNat]? =some (transE (atPid E x.who) x.wesc x.wway)
def DoneH (B pe:Nat) (w:World) (h:MH) (ao:Option Addr) (ac:Nat) (E:EnvD) (x:WayD) (r:StateD × ByteArray × Int):Prop:=
 ∀ (w0 W:World) (g off:Nat),Below w.heap.size w w0→g < B→stmtAt B W g off (transE E x.esc x.way).s→NwS w0 h ao ac E W→
  Calls Tryz.prog 46 #[.pointer (some ⟨pe,0,none⟩),.pointer (some ⟨w0.heap.size,0,none⟩),.pointer (some ⟨g,off,none⟩),.agg #[.int .i64 x.esc,.int .i64 x.way,.int .i64 x.who,.int .i64 x.wesc,.int .i64 x.wway,.int .i64 x.err]] W (DoneX w0 h ao ac E r)
theorem atPid_own {E:EnvD} {k:Int} (h:E.pid=k):atPid E k=E:=by cases E;subst h;rfl
theorem transE_get {E:EnvD} {esc:Int} {j:Nat} {t:TransD} (h: (listE E esc)[j]? =some t):transE E esc j=t:=by
 unfold transE;rw [Int.toNat_natCast,List.getD_eq_getElem?_getD,h];rfl
theorem endS_eq (h:MH) (hn:SH) (ao:Option Addr) (ac:Nat) (E:EnvD) (s:StateD):sV hn (endS s E.pid)=sV hn ⟨s.globals,s.chans,s.procs,E.pid,if (s.procs.length:Int)≤s.alone then -1 else s.alone,s.claim⟩:=rfl
theorem withS2 (E:EnvD) (s t:StateD):withS (withS E s) t=withS E t:=rfl
theorem run_none (x:WayD) (W:World) (b:Bool) (h: (b=true∧x=noneW)∨ (b=false∧x.way≠ -1)):
 (binOp .eql 39 (.agg #[.int .i64 x.esc,.int .i64 x.way,.int .i64 x.who,.int .i64 x.wesc,.int .i64 x.wway,.int .i64 x.err]) (.agg #[.int .i64 (-1),.int .i64 (-1),.int .i64 (-1),.int .i64 (-1),.int .i64 (-1),.int .i64 0])).run Tryz.prog W= .ok (.bool b) W:=by
 rcases h with ⟨rfl,rfl⟩ | ⟨rfl,h⟩
 · go_simp;rfl
 · have d1: (x.way == (-1:Int))=false:=by rw [beq_eq_false_iff_ne];exact h
   by_cases h0:x.esc= -1
   · have d0: (x.esc == (-1:Int))=true:=by rw [beq_iff_eq];exact h0
     clear h0 h;go_simp
   · have d0: (x.esc == (-1:Int))=false:=by rw [beq_eq_false_iff_ne];exact h0
     clear h0 h;go_simp
theorem env6 {W:World} {b:Nat} {h:MH} {hs:SH} {ao:Option Addr} {ac:Nat} {E:EnvD} {T:TypeId} (hb:W.heap[b]? =some (.cells (eCells h hs ao ac E) T (0,0))):
 (W.cell? ⟨b,7,none⟩=some (.slice hs.go E.s.globals.length hs.gc)∧W.cell? ⟨b,8,none⟩=some (.slice hs.co E.s.chans.length hs.cc)∧W.cell? ⟨b,9,none⟩=some (.slice hs.po E.s.procs.length hs.pc)∧W.cell? ⟨b,10,none⟩=some (.int .i64 E.s.last)∧W.cell? ⟨b,11,none⟩=some (.int .i64 E.s.alone)∧W.cell? ⟨b,12,none⟩=some (.int .i64 E.s.claim))∧
 W.frozen? ⟨b,7,none⟩=false∧W.frozen? ⟨b,8,none⟩=false∧W.frozen? ⟨b,9,none⟩=false∧W.frozen? ⟨b,10,none⟩=false∧W.frozen? ⟨b,11,none⟩=false∧W.frozen? ⟨b,12,none⟩=false:=
 ⟨⟨(cell_of_row _ _ _ _ _ _ hb).trans rfl,(cell_of_row _ _ _ _ _ _ hb).trans rfl,(cell_of_row _ _ _ _ _ _ hb).trans rfl,(cell_of_row _ _ _ _ _ _ hb).trans rfl,(cell_of_row _ _ _ _ _ _ hb).trans rfl,(cell_of_row _ _ _ _ _ _ hb).trans rfl⟩,frozen_of_row _ _ _ _ _ hb,frozen_of_row _ _ _ _ _ hb,frozen_of_row _ _ _ _ _ hb,frozen_of_row _ _ _ _ _ hb,frozen_of_row _ _ _ _ _ hb,frozen_of_row _ _ _ _ _ hb⟩
section
attribute [-go_sem] run_eql_struct
set_option maxRecDepth 100000 in
set_option maxHeartbeats 8000000 in
theorem goneC {B pe:Nat} {h:MH} {hs:SH} {ao:Option Addr} {ac:Nat} {E:EnvD} {x:WayD} {r:StateD × ByteArray × Int} (w:World) (hblk:w.heap[pe]? =some (.cells (eCells h hs ao ac E) 36 (0,0))) (hB:B≤w.heap.size) (hd:ED B w h hs ao E) (hok:Ok E) (hp0:0≤E.pid) (hno:NoneP w)
 (hc:x=noneW∨WayF E x∧x.way≠ -1∧ (r.2.2=0→E.s.procs.length≤r.1.procs.length)∧DoneH B pe w h ao ac E x r):
 Calls Tryz.prog 25 #[.pointer (some ⟨pe,0,none⟩),.agg #[.int .i64 x.esc,.int .i64 x.way,.int .i64 x.who,.int .i64 x.wesc,.int .i64 x.wway,.int .i64 x.err]] w (GoP w (goneR E x r)):=by
 obtain ⟨k,tk,kl,p,t,l,hpf⟩:=PF.of hok hp0;obtain ⟨CS,hCS⟩:∃c,c=eCells h hs ao ac E:=⟨_,rfl⟩;rw [←hCS] at hblk;have HPF:=Lib.hid hpf;have HCS:=Lib.hid hCS;have HOK:=Lib.hid hok;have HC:=Lib.hid hc;have HI:Hid ((Tryz.prog.info? 36).map (·.size)=some CS.size):=Lib.hid (by rw [hCS];show _=some 16;kernel_rfl);have HSZ:Hid (CS.size=16):=Lib.hid (by rw [hCS];rfl);have hb1:=ball (w:=w) (.cells #[.int .i64 x.esc,.int .i64 x.way,.int .i64 x.who,.int .i64 x.wesc,.int .i64 x.wway,.int .i64 x.err] 39);have hb2:Below w.heap.size w ((w.alloc (.cells #[.int .i64 x.esc,.int .i64 x.way,.int .i64 x.who,.int .i64 x.wesc,.int .i64 x.wway,.int .i64 x.err] 39)).alloc (.cells #[.slice none 0 0,.slice none 0 0,.slice none 0 0,.int .i64 0,.int .i64 0,.int .i64 0] 33)):=hb1.trans ((ball _).mono hb1.size);have hsz: ((w.alloc (.cells #[.int .i64 x.esc,.int .i64 x.way,.int .i64 x.who,.int .i64 x.wesc,.int .i64 x.wway,.int .i64 x.err] 39)).alloc (.cells #[.slice none 0 0,.slice none 0 0,.slice none 0 0,.int .i64 0,.int .i64 0,.int .i64 0] 33)).heap.size=w.heap.size+1+1:=by simp
 have HXB:Hid (((w.alloc (.cells #[.int .i64 x.esc,.int .i64 x.way,.int .i64 x.who,.int .i64 x.wesc,.int .i64 x.wway,.int .i64 x.err] 39)).alloc (.cells #[.slice none 0 0,.slice none 0 0,.slice none 0 0,.int .i64 0,.int .i64 0,.int .i64 0] 33)).heap[w.heap.size]? =some (.cells #[.int .i64 x.esc,.int .i64 x.way,.int .i64 x.who,.int .i64 x.wesc,.int .i64 x.wway,.int .i64 x.err] 39 (0,0))):=Lib.hid ((Below.heap_alloc _ _ _ (by simp)).trans (heap_alloc_new _ _));have HRB:Hid (((w.alloc (.cells #[.int .i64 x.esc,.int .i64 x.way,.int .i64 x.who,.int .i64 x.wesc,.int .i64 x.wway,.int .i64 x.err] 39)).alloc (.cells #[.slice none 0 0,.slice none 0 0,.slice none 0 0,.int .i64 0,.int .i64 0,.int .i64 0] 33)).heap[w.heap.size+1]? =some (.cells #[.slice none 0 0,.slice none 0 0,.slice none 0 0,.int .i64 0,.int .i64 0,.int .i64 0] 33 (0,0))):=Lib.hid (at_new (by simp));have HEB:=Lib.hid ((hb2.block pe (lt_of_block hblk)).trans hblk);have HED:=Lib.hid (hd.below (hb2.mono hB));have HNO:=Lib.hid (hno.below hb2);have HB2:=Lib.hid hb2;have HBB:=Lib.hid hB;have HPE:=Lib.hid (lt_of_block hblk);clear hblk hB hd hok hp0 hno hpf hCS hb1 hb2 hc;go_enter Tryz.func25,Tryz.ntmps25;go_upto_region 1 with fail
 generalize (w.alloc (.cells #[.int .i64 x.esc,.int .i64 x.way,.int .i64 x.who,.int .i64 x.wesc,.int .i64 x.wway,.int .i64 x.err] 39)).alloc (.cells #[.slice none 0 0,.slice none 0 0,.slice none 0 0,.int .i64 0,.int .i64 0,.int .i64 0] 33)=w0 at HXB HRB HEB HED HNO HB2 hsz ⊢;go_wp2_with (refine wpList_load_row rfl _ _ rfl _ rfl _ CS _ _ HEB.out Tryz.underlying36 rfl HI.out ?_);have hst:=run_storeCells_new (P:=Tryz.prog) w0 36 #[.slice none 0 0,.slice none 0 0,.slice none 0 0,.slice none 0 0,.slice none 0 0,.int .i64 0,.slice none 0 0,.slice none 0 0,.slice none 0 0,.slice none 0 0,.int .i64 0,.int .i64 0,.int .i64 0,.int .i64 0,.bool false,.slice none 0 0] CS HI.out HSZ.out.symm (by rw [HCS.out];exact xC_one _ _ _ _ _);rw [hsz] at hst;rw [hst];clear hst;go_upto_region 2 with fail
 have HK1:Hid (∀W,Below w0.heap.size w0 W→W.heap[pe]? =some (.cells (eCells h hs ao ac E) 36 (0,0))∧W.heap[w.heap.size]? =some (.cells #[.int .i64 x.esc,.int .i64 x.way,.int .i64 x.who,.int .i64 x.wesc,.int .i64 x.wway,.int .i64 x.err] 39 (0,0))∧W.heap[w.heap.size+1]? =some (.cells #[.slice none 0 0,.slice none 0 0,.slice none 0 0,.int .i64 0,.int .i64 0,.int .i64 0] 33 (0,0))):=Lib.hid fun W hb=>⟨((hb.block _ (lt_of_block HEB.out)).trans HEB.out).trans (by rw [HCS.out]),(hb.block _ (lt_of_block HXB.out)).trans HXB.out,(hb.block _ (lt_of_block HRB.out)).trans HRB.out⟩
 have HB1:Hid (Below w0.heap.size w0 (w0.alloc (.cells CS 36))):=Lib.hid (ball _);have HN1:Hid ((w0.alloc (.cells CS 36)).heap[w0.heap.size]? =some (.cells (eCells h hs ao ac E) 36 (0,0))):=Lib.hid (by rw [←HCS.out];exact heap_alloc_new _ _);have HZ1:Hid ((w0.alloc (.cells CS 36)).heap.size=w0.heap.size+1):=Lib.hid (by simp);clear HXB HRB HEB;generalize w0.alloc (.cells CS 36)=W1 at HB1 HN1 HZ1 ⊢;obtain ⟨ne,hne⟩:∃q,w0.heap.size=q:=⟨_,rfl⟩;have HNE:=Lib.hid hne;rw [←hsz,hne];have HSZ0:=Lib.hid hsz;clear hsz hne;obtain ⟨⟨s0,s1,s2,s3,s4,s5⟩,-⟩:=env6 (HK1.out W1 HB1.out).1;have HBW:Hid (B≤w0.heap.size):=Lib.hid (Nat.le_trans HBB.out HB2.out.size);have HCP:=Lib.hid (copyC W1 (Nat.le_trans HBW.out HB1.out.size) (HED.out.sd.below (HB1.out.mono HBW.out)) (may_lensB HOK.out.good HOK.out.may));unfold sV sCells at HCP;go_wp2_with fail;refine HCP.out.mono ?_;rintro e W2 ⟨h2,rfl,hso,hb2⟩;clear s0 s1 s2 s3 s4 s5 HCP;obtain ⟨R,ho,hsp⟩:=hso;have HO:=Lib.hid ho;have HSP:=Lib.hid hsp;have HN2:Hid (W2.heap[ne]? =some (.cells (eCells h hs ao ac E) 36 (0,0))):=Lib.hid (by rw [←HNE.out];exact (hb2.block _ (lt_of_block HN1.out)).trans HN1.out);have HBW2:Hid (Below w0.heap.size w0 W2):=Lib.hid (HB1.out.trans (hb2.mono HB1.out.size));clear ho hsp hb2;obtain ⟨⟨s0,s1,s2,s3,s4,s5⟩,t0,t1,t2,t3,t4,t5⟩:=env6 HN2.out;unfold sV sCells;go_upto_region 3 with fail
 clear s0 s1 s2 s3 s4 s5 t0 t1 t2 t3 t4 t5;obtain ⟨W3,hW3⟩:∃W3,W3=put6 W2 ne 7 h2 E.s:=⟨_,rfl⟩;have HW3:=Lib.hid hW3;unfold put6 at hW3;simp only [Nat.reduceAdd] at hW3;rw [←hW3];clear hW3;have HNW:Hid (Nw w0 h ao ac E h2 R W3):=Lib.hid (by
  have e1:ne < W1.heap.size:=by rw [HZ1.out,HNE.out];omega
  refine ⟨?_, ?_, ?_,HSP.out,HED.out.md.lift HBW.out,HED.out.able.up HBW.out⟩
  · rw [HW3.out];exact HBW2.out.trans (put6_below (by rw [HNE.out];exact Nat.le_refl _))
  · rw [HNE.out,HW3.out,put6_heap HN2.out];rfl
  · rw [←HZ1.out,HW3.out];exact put6_own HO.out e1)
 clear HW3 HO HSP HN2 HBW2 HN1 HZ1 HB1;obtain ⟨b,hb⟩:∃b:Bool,(b=true∧x=noneW)∨ (b=false∧x.way≠ -1):=by
  rcases HC.out with hx | hx
  · exact ⟨true,.inl ⟨rfl,hx⟩⟩
  · exact ⟨false,.inr ⟨rfl,hx.2.1⟩⟩
 have hEQ:=fun W=>run_none x W b hb
 have HBX:=Lib.hid hb;clear hb;have HXC:Hid (∀W,Below w0.heap.size w0 W→W.cell? ⟨w.heap.size,0,none⟩=some (.int .i64 x.esc)∧W.cell? ⟨w.heap.size,1,none⟩=some (.int .i64 x.way)∧W.cell? ⟨w.heap.size,2,none⟩=some (.int .i64 x.who)∧W.cell? ⟨w.heap.size,3,none⟩=some (.int .i64 x.wesc)∧W.cell? ⟨w.heap.size,4,none⟩=some (.int .i64 x.wway)∧W.cell? ⟨w.heap.size,5,none⟩=some (.int .i64 x.err)∧W.cell? ⟨pe,13,none⟩=some (.int .i64 E.pid)):=Lib.hid fun W hb=>by
  have xb:=(HK1.out W hb).2.1;exact ⟨(cell_of_row _ _ _ _ _ _ xb).trans rfl,(cell_of_row _ _ _ _ _ _ xb).trans rfl,(cell_of_row _ _ _ _ _ _ xb).trans rfl,(cell_of_row _ _ _ _ _ _ xb).trans rfl,(cell_of_row _ _ _ _ _ _ xb).trans rfl,(cell_of_row _ _ _ _ _ _ xb).trans rfl,(cell_of_row _ _ _ _ _ _ (HK1.out W hb).1).trans rfl⟩
 obtain ⟨x0,x1,x2,x3,x4,x5,x13⟩:=HXC.out W3 HNW.out.bel;obtain ⟨z0,z1,z2,z3,z4,z5⟩:=HNO.out.below HNW.out.bel
 go_upto_if 22 with fail
 clear z0 z1 z2 z3 z4 z5 hEQ
 go_cut [8,9,10] from 23 to 89 (fun v8 v9 v10 W'=>∃ (s1:StateD) (txt:ByteArray),v8= .string txt∧Hid (goneR E x r= (endS s1 E.pid,txt,0))∧Hid (NwS w0 h ao ac (withS E s1) W'))
 case first=>
  cases b;rotate_left
  · have hx:x=noneW:=by rcases HBX.out with ⟨_,hx⟩ | ⟨hx,_⟩;exact hx;cases hx
    have HV:Hid (goneR E x r= (endS (cutS E.s k) E.pid,⟨#[]⟩,0)):=Lib.hid (by unfold goneR;rw [hx,if_pos (by decide),HPF.out.pid,Int.toNat_natCast]);have hkl:=(List.getElem?_eq_some_iff.1 HPF.out.hp).1;have hnw:=HNW.out.below ((Below.refl W3.heap.size W3).drew);obtain ⟨g,hg,hkc,hcut⟩:=hnw.cut hkl;have n9:W3.cell? ⟨ne,9,none⟩=some (.slice (some ⟨g,0,none⟩) E.s.procs.length h2.pc):=by rw [←hg,←HNE.out];exact HNW.out.cell rfl
    have f9:W3.frozen? ⟨ne,9,none⟩=false:=by rw [←HNE.out];exact HNW.out.frozen 9
    have hk0: (0:Int)≤k:=by omega
    rw [HNE.out] at hcut;have HCUT:=Lib.hid hcut;rw [HPF.out.pid] at x13;clear hx hcut hg hnw;go_wp2_with fail
    go_region_law (fail)
    all_goals (
     try simp only [Exit.inBlock,Exit.then]
     go_wp2_with fail;go_meet;exact ⟨_,⟨#[]⟩,rfl,HV,HCUT⟩)
  · have hwf:WayF E x∧x.way≠ -1∧ (r.2.2=0→E.s.procs.length≤r.1.procs.length)∧DoneH B pe w h ao ac E x r:=by
     rcases HC.out with hx | hx
     · rcases HBX.out with ⟨hb,_⟩ | ⟨_,hb⟩
       · cases hb
       · rw [hx] at hb;exact absurd rfl hb
     · exact hx
    have HWF:=Lib.hid hwf;obtain ⟨j,hj⟩:∃j:Nat,x.way=j:=⟨x.way.toNat,by have:=hwf.1.way;omega⟩;have HJ:=Lib.hid hj;have hek:Ek B W3 pe h hs ao ac E:=Ek.ofW (HK1.out W3 HNW.out.bel).1 (Nat.le_trans HBW.out HNW.out.bel.size) (HED.out.below (HNW.out.bel.mono HBW.out));have HEK:=Lib.hid hek;have htr:=hwf.1.tr;rw [hj,Int.toNat_natCast] at htr;rw [←hj] at htr;have htr: (listE (atPid E k) x.esc)[j]? =some (transE E x.esc x.way):=by rw [atPid_own HPF.out.pid];exact htr
    obtain ⟨g,off,hg,hta,htc⟩:=transC (esc:=x.esc) W3 hek (by rw [atPid_own HPF.out.pid];exact HPF.out) (by rw [←HPF.out.e3];exact hwf.1.esc) htr;have HTC:Hid (∀n,Calls Tryz.prog 45 #[.pointer (some ⟨pe,0,none⟩),.int .i64 E.pid,.int .i64 x.esc,.int .i64 x.way] (W3.drewN n) (TrnP g off (W3.drewN n))):=Lib.hid fun n=>by rw [hj,HPF.out.pid];exact htc _ (bdrew (Below.refl _ _) n)
    have HTA:=Lib.hid (And.intro hg hta);clear hek hwf hj htr hg hta htc;go_wp2_with fail;go_quiet ((go_at_call 45;exact Calls.quiet_of (HTC.out _)));have HNW4:=Lib.hid (HNW.out.below (bdrew (Below.refl _ _) nq));have HB34:Hid (Below W3.heap.size W3 (W3.drewN nq)):=Lib.hid (bdrew (Below.refl _ _) nq);generalize W3.drewN nq=W4 at HNW4 HB34 ⊢;clear HTC x0 x1 x2 x3 x4 x5 x13;have HD:Hid (∀W',Below W4.heap.size W4 W'→Calls Tryz.prog 46 #[.pointer (some ⟨pe,0,none⟩),.pointer (some ⟨ne,0,none⟩),.pointer (some ⟨g,off,none⟩),.agg #[.int .i64 x.esc,.int .i64 x.way,.int .i64 x.who,.int .i64 x.wesc,.int .i64 x.wway,.int .i64 x.err]] W' (DoneX w0 h ao ac E r)):=Lib.hid fun W' hb=>by
     have hb2:=HB34.out.trans (hb.mono HB34.out.size);have h1:=HWF.out.2.2.2 w0 W' g off HB2.out HTA.out.1 (stmtAt.below (hb2.mono HEK.out.leW) HTA.out.1 HTA.out.2.s) ⟨h2,R,HNW4.out.below hb⟩;rw [HNE.out] at h1;exact h1
    obtain ⟨x0,x1,x2,x3,x4,x5,-⟩:=HXC.out W4 HNW4.out.bel;obtain ⟨s1,hs1⟩:∃q,r.1=q:=⟨_,rfl⟩;obtain ⟨txt,htx⟩:∃q,r.2.1=q:=⟨_,rfl⟩;obtain ⟨er,her⟩:∃q,r.2.2=q:=⟨_,rfl⟩;have HR:=Lib.hid (And.intro hs1 (And.intro htx her));clear hs1 htx her;go_upto_region 8 with fail
    go_region_law
     (first
       | (go_simp;go_at_call 46;refine (HD.out _ (by first | exact Below.refl _ _ | exact (Below.refl _ _).drew)).mono ?_;rintro e W5 ⟨rfl,hb5,hn5⟩;have HB5:=Lib.hid hb5;have HN5:=Lib.hid hn5;rw [HR.out.2.1,HR.out.2.2];clear hb5 hn5))
    all_goals (
     try simp only [Exit.inBlock,Exit.then]
     clear x0 x1 x2 x3 x4 x5 HD;have HGR:Hid (goneR E x r=if er≠0 then (zeroS,⟨#[]⟩,er) else (endS (moveS E x s1) E.pid,txt,0)):=Lib.hid (by
      unfold goneR;rw [if_neg (by have:=HWF.out.1.way;omega),HR.out.1,HR.out.2.1,HR.out.2.2])
     by_cases h0:er=0;rotate_left
     · have hd0: (er != 0)=true:=by rw [bne_iff_ne];exact h0
       have HV:Hid (goneR E x r= (zeroS,⟨#[]⟩,er)):=Lib.hid (by rw [HGR.out,if_pos h0]);have xr:=(HK1.out W5 HB5.out).2.2;have q0:=(cell_of_row _ _ 0 _ _ _ xr).trans rfl;have q1:=(cell_of_row _ _ 1 _ _ _ xr).trans rfl;have q2:=(cell_of_row _ _ 2 _ _ _ xr).trans rfl;have q3:=(cell_of_row _ _ 3 _ _ _ xr).trans rfl;have q4:=(cell_of_row _ _ 4 _ _ _ xr).trans rfl;have q5:=(cell_of_row _ _ 5 _ _ _ xr).trans rfl;have t0:=frozen_of_row _ _ 0 _ _ xr;have t1:=frozen_of_row _ _ 1 _ _ xr;have t2:=frozen_of_row _ _ 2 _ _ xr;have t3:=frozen_of_row _ _ 3 _ _ xr;have t4:=frozen_of_row _ _ 4 _ _ xr;have t5:=frozen_of_row _ _ 5 _ _ xr;clear xr h0;go_wp2_with fail;refine bodyPost_ret (v:= .tuple #[sV zeroH zeroS,.string ⟨#[]⟩,.int .i64 er]) (by simp [sV,sCells,zeroH,zeroS,results,Tryz.results25,go_sem,q0,q1,q2,q3,q4,q5,t0,t1,t2,t3,t4,t5]) rfl ?_;rw [HV.out];exact ⟨zeroH,rfl,SO.zero _ _,(HB2.out.trans (HB5.out.mono HB2.out.size)).trans (put6_below (b:=w.heap.size+1) (o:=0) (h:=zeroH) (s:=zeroS) (by omega))⟩
     have hd0: (er != 0)=false:=by rw [bne_eq_false_iff_eq];exact h0
     subst h0;have HV:Hid (goneR E x r= (endS (moveS E x s1) E.pid,txt,0)):=Lib.hid (by rw [HGR.out,if_neg (by simp)]);have hlen:E.s.procs.length≤s1.procs.length:=by rw [←HR.out.1];exact HWF.out.2.2.1 HR.out.2.2
     obtain ⟨h3,R3,hn5⟩:=HN5.out HR.out.2.2;rw [HR.out.1] at hn5;have hkl:k < s1.procs.length:=Nat.lt_of_lt_of_le (List.getElem?_eq_some_iff.1 HPF.out.hp).1 hlen;have hki: (k:Int) < s1.procs.length:=by omega
     have hk0: (0:Int)≤k:=by omega
     have HT7:Hid (∀W,Below W3.heap.size W3 W→W.cell? ⟨g,off+7,none⟩=some (.int .i64 (transE E x.esc x.way).to)):=Lib.hid fun W hb=>(hb.cell (p:=⟨g,off+7,none⟩) (by have:=HEK.out.leW;have:=HTA.out.1;show g < _;omega)).trans HTA.out.2.c7
     obtain ⟨tl,htl⟩:∃q,(transE E x.esc x.way).to=q:=⟨_,rfl⟩;have HTL:=Lib.hid htl;rw [htl] at HT7;obtain ⟨gp,hgp,-,-,-⟩:=hn5.loc hkl tl;have HGP:=Lib.hid hgp;have HMV:Hid (moveS E x s1=if 0≤x.who then putLoc (putLoc s1 k tl) x.who.toNat (transE (atPid E x.who) x.wesc x.wway).to else putLoc s1 k tl):=Lib.hid (by unfold moveS;rw [htl,HPF.out.pid,Int.toNat_natCast]);have HQ5:Hid (∀W,Below W5.heap.size W5 W→W.cell? ⟨ne,9,none⟩=some (.slice (some ⟨gp,0,none⟩) s1.procs.length h3.pc)∧W.cell? ⟨pe,13,none⟩=some (.int .i64 k)∧W.cell? ⟨g,off+7,none⟩=some (.int .i64 tl)∧ (∃v,W.cell? ⟨gp,k*4+1,none⟩=some v)∧W.frozen? ⟨gp,k*4+1,none⟩=false∧NwS w0 h ao ac (withS E (putLoc s1 k tl)) (W.setCell ⟨gp,k*4+1,none⟩ (.int .i64 tl))):=Lib.hid fun W hb=>by
      have hw:=hn5.below hb;obtain ⟨gp',e1,e2,e3,e4⟩:=hw.loc hkl tl;rw [hgp] at e1;injection e1 with e1
      injection e1 with e1
      subst e1;have hw0:Below w0.heap.size w0 W:=hw.bel;refine ⟨by rw [←hgp,←HNE.out];exact hw.cell rfl,by rw [←HPF.out.pid];exact (HXC.out W hw0).2.2.2.2.2.2, ?_,e2,e3,e4⟩;exact (hw0.cell (p:=⟨g,off+7,none⟩) (by show g < _;have:=HTA.out.1;have:=HBW.out;omega)).trans (((HNW.out.bel.cell (p:=⟨g,off+7,none⟩) (by show g < _;have:=HTA.out.1;have:=HBW.out;omega)).symm.trans HTA.out.2.c7).trans (by rw [htl]))
     clear hn5 hgp htl HT7 HR HN5 HB5 HGR;go_upto_region 11 with fail
     refine wp_region_kept_tail 13 (by kernel_rfl) (by kernel_rfl) (fun ι hne' f hf hcl=> ?_);simp only [List.take_succ_cons,List.take_zero,List.drop_succ_cons,List.drop_zero];have y0:=fun n=>(HQ5.out _ (hf n)).1
     have y1:=fun n=>(HQ5.out _ (hf n)).2.1
     have y2:=fun n=>(HQ5.out _ (hf n)).2.2.1
     clear hcl hf hd0
     repeat (go_big_quiet_step (fail))
     refine wpQuiet_nil ?_;intro W6 hb6;obtain ⟨-,-,-,⟨u,m1⟩,m2,hn6⟩:=HQ5.out W6 hb6;have HN6:=Lib.hid hn6;clear hb6 hn6 y0 y1 y2 HQ5;go_upto_region 12 with fail
     clear m1 m2;generalize W6.setCell ⟨gp,k*4+1,none⟩ (.int .i64 tl)=W7 at HN6 ⊢;obtain ⟨h7,R7,hn7⟩:=HN6.out;have HB7:=Lib.hid hn7.bel;obtain ⟨x0,x1,x2,x3,x4,x5,-⟩:=HXC.out W7 HB7.out;by_cases hwho:0≤x.who;rotate_left
     · have hdw:decide (0≤x.who)=false:=decide_eq_false hwho;have HVV:Hid (goneR E x r= (endS (putLoc s1 k tl) E.pid,txt,0)):=Lib.hid (by rw [HV.out,HMV.out,if_neg hwho]);clear hwho hn7;go_wp2_with fail;go_meet;exact ⟨_,txt,rfl,HVV,HN6⟩
     have hdw:decide (0≤x.who)=true:=decide_eq_true hwho;have hwf2:=HWF.out.1.who hwho;obtain ⟨k2,tk2,kl2,p2,t2,l2,hpf2⟩:=PF.of (E:=atPid E x.who) ⟨HOK.out.good,HOK.out.may,by show -1≤x.who;omega,hwf2.1⟩ hwho;have hq2:x.who=k2:=hpf2.pid;obtain ⟨j2,hj2⟩:∃j:Nat,x.wway=j:=⟨x.wway.toNat,by omega⟩;have hek7:Ek B W7 pe h hs ao ac E:=Ek.ofW (HK1.out W7 HB7.out).1 (Nat.le_trans HBW.out HB7.out.size) (HED.out.below (HB7.out.mono HBW.out));have hpl2:placeE (atPid E x.who)=l2:=hpf2.e3;obtain ⟨g2,off2,hg2,hta2,htc2⟩:=transC (esc:=x.wesc) (tt:=transE (atPid E x.who) x.wesc x.wway) W7 hek7 (k:=k2) (j:=j2) (by rw [←hq2];exact hpf2) (by rw [←hpl2];exact hwf2.2.2.1) (by rw [←hq2];have h8:=hwf2.2.2.2;rw [show x.wway.toNat=j2 from by omega] at h8;exact h8);obtain ⟨tl2,htl2⟩:∃q,(transE (atPid E x.who) x.wesc x.wway).to=q:=⟨_,rfl⟩;have hk2l:k2 < (putLoc s1 k tl).procs.length:=by
      show k2 < (s1.procs.modify k (atLoc tl)).length;rw [List.length_modify];have h9:k2 < E.s.procs.length:=by have:=hwf2.1;omega
      exact Nat.lt_of_lt_of_le h9 hlen
     have hl2: (putLoc s1 k tl).procs.length=s1.procs.length:=by
      show (s1.procs.modify k (atLoc tl)).length=_;rw [List.length_modify]
     have HVV:Hid (goneR E x r= (endS (putLoc (putLoc s1 k tl) k2 tl2) E.pid,txt,0)):=Lib.hid (by rw [HV.out,HMV.out,if_pos hwho,htl2,show x.who.toNat=k2 from by omega]);obtain ⟨gp2,hgp2,-,-,-⟩:=hn7.loc (q:=k2) hk2l tl2;have HQ7:Hid (∀W,Below W7.heap.size W7 W→W.cell? ⟨ne,9,none⟩=some (.slice (some ⟨gp2,0,none⟩) s1.procs.length h7.pc)∧W.cell? ⟨g2,off2+7,none⟩=some (.int .i64 tl2)∧ (∃v,W.cell? ⟨gp2,k2*4+1,none⟩=some v)∧W.frozen? ⟨gp2,k2*4+1,none⟩=false∧NwS w0 h ao ac (withS E (putLoc (putLoc s1 k tl) k2 tl2)) (W.setCell ⟨gp2,k2*4+1,none⟩ (.int .i64 tl2))∧Calls Tryz.prog 45 #[.pointer (some ⟨pe,0,none⟩),.int .i64 k2,.int .i64 x.wesc,.int .i64 x.wway] W (fun e W'=>e= .returned (.pointer (some ⟨g2,off2,none⟩))∧Below W.heap.size W W')):=Lib.hid fun W hb=>by
      have hw:=hn7.below hb;obtain ⟨gp',e1,e2,e3,e4⟩:=hw.loc hk2l tl2;rw [hgp2] at e1;injection e1 with e1
      injection e1 with e1
      subst e1;refine ⟨by rw [←hgp2,←HNE.out,←hl2];exact hw.cell rfl, ?_,e2,e3,e4, ?_⟩
      · exact (hb.cell (p:=⟨g2,off2+7,none⟩) (by show g2 < _;have:=hek7.leW;omega)).trans (by rw [←htl2];exact hta2.c7)
      · rw [hj2];refine (htc2 W hb).mono fun e W' ⟨h1,n,h2⟩=>⟨h1,by rw [h2];exact bdrew (Below.refl _ _) n⟩
     have HX7:Hid (∀W,Below W7.heap.size W7 W→W.cell? ⟨w.heap.size,2,none⟩=some (.int .i64 k2)∧W.cell? ⟨w.heap.size,3,none⟩=some (.int .i64 x.wesc)∧W.cell? ⟨w.heap.size,4,none⟩=some (.int .i64 x.wway)):=Lib.hid fun W hb=>by
      have h9:=HXC.out W (HB7.out.trans (hb.mono HB7.out.size));exact ⟨by rw [←hq2];exact h9.2.2.1,h9.2.2.2.1,h9.2.2.2.2.1⟩
     have hk2i: (k2:Int) < s1.procs.length:=by omega
     have hk20: (0:Int)≤k2:=by omega
     clear hek7 hpf2 hj2 hpl2 hg2 hta2 htc2 htl2 hgp2 hn7 hwf2 hl2 HN6 HB7 hwho HTL HGP hlen;go_upto_region 13 with fail
     clear x0 x1 x2 x3 x4 x5;refine wp_region_kept_tail 18 (by kernel_rfl) (by kernel_rfl) (fun ι hne' f hf hcl=> ?_);simp only [List.take_succ_cons,List.take_zero,List.drop_succ_cons,List.drop_zero];have y0:=fun n=>(HQ7.out _ (hf n)).1
     have y1:=fun n=>(HQ7.out _ (hf n)).2.1
     have y2:=fun n=>(HX7.out _ (hf n)).1
     have y3:=fun n=>(HX7.out _ (hf n)).2.1
     have y4:=fun n=>(HX7.out _ (hf n)).2.2
     have HA:=Lib.hid (fun n=>(HQ7.out _ (hf n)).2.2.2.2.2);have HFF:=Lib.hid hcl;clear hcl hf hdw hq2
     repeat (go_big_quiet_step ((go_at_call 45;with_reducible exact kept_of HFF.out _ (HA.out _))))
     refine wpQuiet_nil ?_;intro W8 hb8;obtain ⟨-,-,⟨u,m1⟩,m2,hn8,-⟩:=HQ7.out W8 hb8;have HN8:=Lib.hid hn8;clear hb8 hn8 y0 y1 y2 y3 y4 HQ7 HX7 HA HFF;go_wp2_with fail;go_meet;exact ⟨_,txt,rfl,HVV,HN8⟩)
 case rest=>
  rename World=>Wc
  obtain ⟨s1,txt,rfl,HG,HN⟩:=hcut;obtain ⟨h3,R3,hn3⟩:=HN.out;have HN3:=Lib.hid hn3;have e13:Wc.cell? ⟨pe,13,none⟩=some (.int .i64 E.pid):=(cell_of_row _ _ _ _ _ _ (HK1.out Wc hn3.bel).1).trans rfl;have n10:Wc.cell? ⟨ne,10,none⟩=some (.int .i64 s1.last):=by rw [←HNE.out];exact hn3.cell rfl
  have f10:Wc.frozen? ⟨ne,10,none⟩=false:=by rw [←HNE.out];exact hn3.frozen 10
  have HN4:Hid (Nw w0 h ao ac (withS E ⟨s1.globals,s1.chans,s1.procs,E.pid,s1.alone,s1.claim⟩) h3 R3 (Wc.setCell ⟨ne,10,none⟩ (.int .i64 E.pid))):=Lib.hid (by rw [←HNE.out];exact hn3.store 10 (.int .i64 E.pid) rfl ⟨hn3.spl.g,hn3.spl.c,hn3.spl.p⟩ rfl rfl);clear hn3 HN HN3 HNW;go_upto_region 15 with fail
  clear e13 n10 f10;generalize Wc.setCell ⟨ne,10,none⟩ (.int .i64 E.pid)=W4 at HN4 ⊢;have n9:W4.cell? ⟨ne,9,none⟩=some (.slice h3.po s1.procs.length h3.pc):=by rw [←HNE.out];exact HN4.out.cell rfl
  have n11:W4.cell? ⟨ne,11,none⟩=some (.int .i64 s1.alone):=by rw [←HNE.out];exact HN4.out.cell rfl
  have f11:W4.frozen? ⟨ne,11,none⟩=false:=by rw [←HNE.out];exact HN4.out.frozen 11
  have HEND:∀ (W5:World) (a:Int),Hid (Nw w0 h ao ac (withS E ⟨s1.globals,s1.chans,s1.procs,E.pid,a,s1.claim⟩) h3 R3 W5)→a= (if (s1.procs.length:Int)≤s1.alone then -1 else s1.alone)→Hid (SO w.heap.size (put6 W5 (w.heap.size+1) 0 h3 ⟨s1.globals,s1.chans,s1.procs,E.pid,a,s1.claim⟩) h3 (endS s1 E.pid)∧Below w.heap.size w (put6 W5 (w.heap.size+1) 0 h3 ⟨s1.globals,s1.chans,s1.procs,E.pid,a,s1.claim⟩)∧sV h3 ⟨s1.globals,s1.chans,s1.procs,E.pid,a,s1.claim⟩=sV h3 (endS s1 E.pid)):=fun W5 a hn5 ha=>Lib.hid (by
   subst ha;refine ⟨⟨R3,(put6_own hn5.out.own (by rw [HSZ0.out];omega)).mono (by rw [HSZ0.out];omega),hn5.out.spl⟩,(HB2.out.trans (hn5.out.bel.mono HB2.out.size)).trans (put6_below (by omega)),rfl⟩)
  by_cases ha: (s1.procs.length:Int)≤s1.alone
  · have hda:decide ((s1.procs.length:Int)≤s1.alone)=true:=decide_eq_true ha;have HN5:Hid (Nw w0 h ao ac (withS E ⟨s1.globals,s1.chans,s1.procs,E.pid,-1,s1.claim⟩) h3 R3 (W4.setCell ⟨ne,11,none⟩ (.int .i64 (-1)))):=Lib.hid (by rw [←HNE.out];exact HN4.out.store 11 (.int .i64 (-1)) rfl ⟨HN4.out.spl.g,HN4.out.spl.c,HN4.out.spl.p⟩ rfl rfl);have HE5:=HEND _ _ HN5 (by rw [if_pos ha]);clear ha HN4;go_upto_region 17 with fail
    clear n9 n11 f11 hda;generalize W4.setCell ⟨ne,11,none⟩ (.int .i64 (-1))=W5 at HN5 HE5 ⊢;have HBX:Hid (W5.heap[ne]? =some (.cells (eCells h h3 ao ac (withS E ⟨s1.globals,s1.chans,s1.procs,E.pid,-1,s1.claim⟩)) 36 (0,0))):=Lib.hid (by rw [←HNE.out];exact HN5.out.box);obtain ⟨⟨s0,s1',s2,s3,s4,s5⟩,-⟩:=env6 HBX.out;have xr:=(HK1.out W5 HN5.out.bel).2.2;have q0:=(cell_of_row _ _ 0 _ _ _ xr).trans rfl;have q1:=(cell_of_row _ _ 1 _ _ _ xr).trans rfl;have q2:=(cell_of_row _ _ 2 _ _ _ xr).trans rfl;have q3:=(cell_of_row _ _ 3 _ _ _ xr).trans rfl;have q4:=(cell_of_row _ _ 4 _ _ _ xr).trans rfl;have q5:=(cell_of_row _ _ 5 _ _ _ xr).trans rfl;have t0:=frozen_of_row _ _ 0 _ _ xr;have t1:=frozen_of_row _ _ 1 _ _ xr;have t2:=frozen_of_row _ _ 2 _ _ xr;have t3:=frozen_of_row _ _ 3 _ _ xr;have t4:=frozen_of_row _ _ 4 _ _ xr;have t5:=frozen_of_row _ _ 5 _ _ xr;clear xr;simp only [withS] at s0 s1' s2 s3 s4 s5;go_wp2_with fail;refine bodyPost_ret (v:= .tuple #[sV h3 ⟨s1.globals,s1.chans,s1.procs,E.pid,-1,s1.claim⟩,.string txt,.int .i64 0]) (by simp [sV,sCells,results,Tryz.results25,go_sem,q0,q1,q2,q3,q4,q5,t0,t1,t2,t3,t4,t5]) rfl ?_;rw [HG.out];exact ⟨h3,by rw [HE5.out.2.2],HE5.out.1,HE5.out.2.1⟩
  · have hda:decide ((s1.procs.length:Int)≤s1.alone)=false:=decide_eq_false ha;have HE5:=HEND _ _ HN4 (by rw [if_neg ha]);clear ha;have HBX:Hid (W4.heap[ne]? =some (.cells (eCells h h3 ao ac (withS E ⟨s1.globals,s1.chans,s1.procs,E.pid,s1.alone,s1.claim⟩)) 36 (0,0))):=Lib.hid (by rw [←HNE.out];exact HN4.out.box);go_upto_region 17 with fail
    clear n9 n11 f11 hda;obtain ⟨⟨s0,s1',s2,s3,s4,s5⟩,-⟩:=env6 HBX.out;have xr:=(HK1.out W4 HN4.out.bel).2.2;have q0:=(cell_of_row _ _ 0 _ _ _ xr).trans rfl;have q1:=(cell_of_row _ _ 1 _ _ _ xr).trans rfl;have q2:=(cell_of_row _ _ 2 _ _ _ xr).trans rfl;have q3:=(cell_of_row _ _ 3 _ _ _ xr).trans rfl;have q4:=(cell_of_row _ _ 4 _ _ _ xr).trans rfl;have q5:=(cell_of_row _ _ 5 _ _ _ xr).trans rfl;have t0:=frozen_of_row _ _ 0 _ _ xr;have t1:=frozen_of_row _ _ 1 _ _ xr;have t2:=frozen_of_row _ _ 2 _ _ xr;have t3:=frozen_of_row _ _ 3 _ _ xr;have t4:=frozen_of_row _ _ 4 _ _ xr;have t5:=frozen_of_row _ _ 5 _ _ xr;clear xr;simp only [withS] at s0 s1' s2 s3 s4 s5;go_wp2_with fail;refine bodyPost_ret (v:= .tuple #[sV h3 ⟨s1.globals,s1.chans,s1.procs,E.pid,s1.alone,s1.claim⟩,.string txt,.int .i64 0]) (by simp [sV,sCells,results,Tryz.results25,go_sem,q0,q1,q2,q3,q4,q5,t0,t1,t2,t3,t4,t5]) rfl ?_;rw [HG.out];exact ⟨h3,by rw [HE5.out.2.2],HE5.out.1,HE5.out.2.1⟩
end
end Go.Proofs.YthfldokfnjpkmaaGreatDoor
