/- The ways of a process: the whole. -/
import Derived.Test.YthfldokfnjpkmaaGreatDoorM31
import Derived.Test.YthfldokfnjpkmaaGreatDoorM19
import Derived.Test.YthfldokfnjpkmaaGreatDoorM24
import Derived.Test.YthfldokfnjpkmaaGreatDoorM23
set_option linter.unusedVariables false
set_option linter.unusedSimpArgs false
namespace Go.Proofs.YthfldokfnjpkmaaGreatDoor
open Go.ChangeShapes Go.WideShapes Go.ChangeAt Go.RowKit
theorem waysLists {B pe eb k tk kl:Nat} {h:MH} {hs:SH} {ao:Option Addr} {ac:Nat} {E:EnvD} {p:ProcessD} {t:ProcD} {l:LocD} (W:World) (hblk:W.heap[pe]? =some (.cells (eCells h hs ao ac E) 36 (0,0))) (hB:B≤W.heap.size) (hd:ED B W h hs ao E) (hok:Ok E) (hf:PF E k tk kl p t l) (h1:W.cell? ⟨eb,0,none⟩=some (.pointer (some ⟨pe,0,none⟩))):
 Calls Tryz.prog 41 #[.pointer (some ⟨pe,0,none⟩),.func (.func 42) #[] #[.pointer (some ⟨eb,0,none⟩),.pointer (some ⟨W.heap.size,0,none⟩)]] (W.alloc (.cells #[.slice none 0 0] 45)) fun e W'=>e= .returned (.tuple #[])∧TX W.heap.size W (xWaysL E 0 l.esc l.out) W':=by
 have hk:Ek B W pe h hs ao ac E:=Ek.ofW hblk hB hd;have hT:WB B W.heap.size pe eb h hs ao ac E W:=⟨hblk,hd,hok,h1,World.block_lt_of_cell? W _ h1,lt_of_block hblk,hB⟩;rw [xWays_is];obtain ⟨R,hR⟩:∃R,listsF (oneW E) 0 l.esc l.out=R:=⟨_,rfl⟩;rw [hR];refine listsC (b:=W.heap.size) (W0:=W) (P:=fun i W'=>(∃cur,TX W.heap.size W cur W')∧listsF (oneW E) i (l.esc.drop i) l.out=R) (Q:=fun W'=>TX W.heap.size W R W') _ hk hf ⟨fun i W' h=>h.1.elim fun _ h=>h.bel,⟨hk.ck.lt,hk.leW⟩,run_ways1,fun i W1 W2 h hb=>⟨h.1.elim fun c h=>⟨c,h.below hb (Nat.le_of_lt h.lt)⟩,h.2⟩, ?_, ?_⟩ ⟨⟨_,TX.new W⟩,hR⟩
 · intro i e lo lc W1 he hP hr;have hlt:=(List.getElem?_eq_some_iff.1 he).1;have hee:=(List.getElem?_eq_some_iff.1 he).2;have hd2:l.esc.drop i=e :: l.esc.drop (i+1):=by rw [List.drop_eq_getElem_cons hlt,hee]
   obtain ⟨⟨cur,hx⟩,h5⟩:=hP;have hC:=waysOneC (lc:=lc) (i:Int) W1 hT hx hr (hf.esc e (List.mem_of_getElem? he)) (hf.n2 e (List.mem_of_getElem? he));refine Calls.mono hC ?_;rintro x W2 ⟨rfl,hx2⟩;rw [hd2] at h5;refine ⟨_,rfl,fun hr=> ?_,fun hr=> ?_⟩
   · have h6: (oneW E i e).2=true:=hr;rw [listsF,if_pos h6] at h5;rw [←h5];exact hx2
   · have h6:¬ (oneW E i e).2=true:=by
      have : (oneW E i e).2=false:=hr;simp [this]
     have h7: (oneW E i e).1= []:=List.eq_nil_of_length_eq_zero (show (listedF E i e).length=0 by simp at hr;simp [hr]);rw [listsF,if_neg h6,h7,List.nil_append] at h5;exact ⟨⟨_,hx2⟩,by push_cast;exact h5⟩
 · intro lo lc W1 hP hr;obtain ⟨⟨cur,hx⟩,h5⟩:=hP;have hC:=waysOneC (lc:=lc) (-1:Int) W1 hT hx hr hf.out hf.n1;refine Calls.mono hC ?_;rintro x W2 ⟨rfl,hx2⟩;rw [List.drop_eq_nil_of_le (Nat.le_refl _),listsF] at h5;exact ⟨_,rfl,by rw [←h5];exact hx2⟩
set_option maxRecDepth 100000 in
set_option maxHeartbeats 4000000 in
theorem xwaysC {B pe:Nat} {h:MH} {hs:SH} {ao:Option Addr} {ac:Nat} {E:EnvD} (w:World) (hblk:w.heap[pe]? =some (.cells (eCells h hs ao ac E) 36 (0,0))) (hB:B≤w.heap.size) (hd:ED B w h hs ao E) (hok:Ok E) (h0:0≤E.pid) (hno:NoneP w):
 Calls Tryz.prog 24 #[.pointer (some ⟨pe,0,none⟩)] w (XWaysP (waysF E) w):=by
 obtain ⟨k,tk,kl,p,t,l,hpf⟩:=PF.of hok h0;have HPF:=Lib.hid hpf;have HO:=Lib.hid hok;have HNO:=Lib.hid (hno.below (ball (.cells #[.pointer (some ⟨pe,0,none⟩)] 77)));have hb0:=ball (w:=w) (.cells #[.pointer (some ⟨pe,0,none⟩)] 77);have HB0:=Lib.hid hb0;have HW:=Lib.hid (And.intro ((hb0.block pe (lt_of_block hblk)).trans hblk) (And.intro (Nat.le_trans hB hb0.size) (hd.below (hb0.mono hB))));have HEB:Hid ((w.alloc (.cells #[.pointer (some ⟨pe,0,none⟩)] 77)).cell? ⟨w.heap.size,0,none⟩=some (.pointer (some ⟨pe,0,none⟩))):=Lib.hid ((cell_of_row _ _ 0 _ _ _ (heap_alloc_new w _)).trans rfl);clear hblk hB hd hok h0 hno hpf hb0;go_enter Tryz.func24,Tryz.ntmps24;go_upto_region 1 with fail
 generalize w.alloc (.cells #[.pointer (some ⟨pe,0,none⟩)] 77)=W0 at HNO HB0 HW HEB ⊢;obtain ⟨eb,heb⟩:∃b,w.heap.size=b:=⟨_,rfl⟩;have HBE:Hid (Below w.heap.size w W0):=Lib.hid HB0.out;rw [heb] at HEB ⊢;have HEK:=Lib.hid (Ek.ofW HW.out.1 HW.out.2.1 HW.out.2.2);obtain ⟨g,off,ho,hg,hpa⟩:=HEK.out.sk.sd.procs.get HPF.out.hp;obtain ⟨g2,off2,ho2,hg2,hta⟩:=HEK.out.ck.md.procs.get HPF.out.ht;have HP:=Lib.hid (processC W0 HEK.out HPF.out.pid HPF.out.hp HPF.out.etk HPF.out.ht ho ho2);have HQ:Hid (∀W,Below W0.heap.size W0 W→W.cell? ⟨eb,0,none⟩=some (.pointer (some ⟨pe,0,none⟩))∧W.cell? ⟨g,off+k*4+1,none⟩=some (.int .i64 kl)∧W.cell? ⟨g2,off2+tk*10+6,none⟩=some (.int .i64 t.final)∧W.cell? ⟨g2,off2+tk*10+9,none⟩=some (.int .i64 t.provided)∧W.cell? ⟨pe,13,none⟩=some (.int .i64 k)∧W.cell? ⟨pe,9,none⟩=some (.slice hs.po E.s.procs.length hs.pc)):=Lib.hid fun W hb=>by
  have hl:=HEK.out.leW;have hk2:=HEK.out.below hb;exact ⟨(hb.cell (World.block_lt_of_cell? W0 _ HEB.out)).trans HEB.out,(hb.cell (p:=⟨g,off+k*4+1,none⟩) (by show g < _;omega)).trans (by rw [←HPF.out.ekl];exact hpa.c1),(hb.cell (p:=⟨g2,off2+tk*10+6,none⟩) (by show g2 < _;omega)).trans hta.c6,(hb.cell (p:=⟨g2,off2+tk*10+9,none⟩) (by show g2 < _;omega)).trans hta.c9,by rw [←HPF.out.pid];exact hk2.c13,hk2.sk.c2⟩
 have hfew:=HPF.out.few;have HEP:=Lib.hid HPF.out.pid;clear hpa hta ho ho2 hg hg2;have x1:=HEB.out;go_wp2_with fail;refine HP.out.mono ?_;rintro e W1 ⟨rfl,hb1⟩;have HB1:=Lib.hid hb1;clear hb1 HP x1;go_upto_region 2 with fail
 obtain ⟨x1,x2,x3,x4,x5,x6⟩:=HQ.out W1 HB1.out;by_cases hfin: (kl:Int)=t.final
 · have hd0: ((kl:Int) == t.final)=true:=by simpa using hfin
   go_quiet (fail);have HB2:Hid (Below W0.heap.size W0 (W1.drewN nq)):=Lib.hid (bdrew HB1.out nq);generalize W1.drewN nq=W2 at HB2 ⊢;clear x1 x2 x3 x4 x5 x6 hd0 HB1;go_upto_region 3 with fail
   obtain ⟨x1,x2,x3,x4,x5,x6⟩:=HQ.out W2 HB2.out;by_cases hpd:E.pid= (E.s.procs.length:Int) - 1
   · have hdp: ((k:Int) == (E.s.procs.length:Int) - 1)=true:=by rw [beq_iff_eq,←HEP.out];exact hpd
     have HV:Hid (waysF E= [noneW]):=Lib.hid (by unfold waysF;rw [HPF.out.e1,HPF.out.e2,HPF.out.ekl,if_pos hfin,if_pos hpd]);clear hpd hfin;go_quiet (fail);have HB3:Hid (Below W0.heap.size W0 (W2.drewN nq)):=Lib.hid (bdrew HB2.out nq);generalize W2.drewN nq=W3 at HB3 ⊢;clear x1 x2 x3 x4 x5 x6 hdp;obtain ⟨z0,z1,z2,z3,z4,z5⟩:=HNO.out.below HB3.out;have HPO:=Lib.hid (XWaysP.one noneW (HBE.out.trans (HB3.out.mono HBE.out.size)));go_wp2_with fail;refine bodyPost_ret (v:= .slice (some ⟨W3.heap.size,0,none⟩) 1 1) (by simp [results,Tryz.results24,go_sem]) rfl ?_;exact ⟨_,rfl,by rw [HV.out];exact HPO.out.1,HPO.out.2⟩
   · have hdp: ((k:Int) == (E.s.procs.length:Int) - 1)=false:=by rw [beq_eq_false_iff_ne,←HEP.out];exact hpd
     have HV:Hid (waysF E= []):=Lib.hid (by unfold waysF;rw [HPF.out.e1,HPF.out.e2,HPF.out.ekl,if_pos hfin,if_neg hpd]);clear hpd hfin;go_quiet (fail);have HB3:Hid (Below W0.heap.size W0 (W2.drewN nq)):=Lib.hid (bdrew HB2.out nq);generalize W2.drewN nq=W3 at HB3 ⊢;clear x1 x2 x3 x4 x5 x6 hdp;go_wp2_with fail;refine bodyPost_ret (v:= .slice none 0 0) (by simp [results,Tryz.results24,go_sem]) rfl ?_;exact ⟨.slice none 0 0,rfl,by rw [HV.out];exact World.ownsRow_nil _ _ _ _,HBE.out.trans (HB3.out.mono HBE.out.size)⟩
 have hd0: ((kl:Int) == t.final)=false:=by simpa using hfin
 have HNF:=Lib.hid hfin;clear hfin;go_quiet (fail);have HB2:Hid (Below W0.heap.size W0 (W1.drewN nq)):=Lib.hid (bdrew HB1.out nq);generalize W1.drewN nq=W2 at HB2 ⊢;clear x1 x2 x3 x4 x5 x6 hd0 HB1;obtain ⟨x1,x2,x3,x4,x5,x6⟩:=HQ.out W2 HB2.out;have HTL:Hid (∀W,Below W0.heap.size W0 W→Calls Tryz.prog 41 #[.pointer (some ⟨pe,0,none⟩),.func (.func 42) #[] #[.pointer (some ⟨eb,0,none⟩),.pointer (some ⟨W.heap.size,0,none⟩)]] (W.alloc (.cells #[.slice none 0 0] 45)) fun e W'=>e= .returned (.tuple #[])∧TX W.heap.size W (xWaysL E 0 l.esc l.out) W'):=Lib.hid fun W hb=>
  waysLists W ((hb.block pe (lt_of_block HW.out.1)).trans HW.out.1) (Nat.le_trans HW.out.2.1 hb.size) (HW.out.2.2.below (hb.mono HW.out.2.1)) HO.out HPF.out (HQ.out W hb).1
 have HLE:Hid (∀W,Below W0.heap.size W0 W→w.heap.size≤W.heap.size+1):=Lib.hid fun W hb=>by have:=HBE.out.size;have:=hb.size;omega
 have HWP:Hid (∀W W' L,Below W0.heap.size W0 W→TX W.heap.size W L W'→Below w.heap.size w W'):=Lib.hid fun W W' L hb hx=>by
  have hbw:=HBE.out.trans (hb.mono HBE.out.size);exact hbw.trans (hx.bel.mono hbw.size)
 have HV:Hid (waysF E=if (provE E).2≠0 then [aloneW (-1) (-1) (provE E).2] else if (provE E).1=false then [] else xWaysL E 0 l.esc l.out):=Lib.hid (by unfold waysF;rw [HPF.out.e1,HPF.out.e2,HPF.out.e3,HPF.out.ekl,if_neg HNF.out]);by_cases hpr:0≤t.provided;rotate_left
 · have hdp:decide (0≤t.provided)=false:=decide_eq_false hpr;have HVL:Hid (waysF E=xWaysL E 0 l.esc l.out):=Lib.hid (by
    rw [HV.out];unfold provE;rw [HPF.out.e2,if_neg hpr];simp)
   clear hpr;have HLS:=Lib.hid (HTL.out W2 HB2.out);have yb: (W2.alloc (.cells #[.slice none 0 0] 45)).cell? ⟨eb,0,none⟩=some (.pointer (some ⟨pe,0,none⟩)):=((ball _).cell (World.block_lt_of_cell? W2 _ (HQ.out W2 HB2.out).1)).trans (HQ.out W2 HB2.out).1;go_wp2_with fail;refine HLS.out.mono ?_;rintro e W9 ⟨rfl,hx⟩;have HX9:=Lib.hid (HWP.out W2 W9 _ HB2.out hx);obtain ⟨v,hbx,hrow⟩:=hx.box;obtain ⟨o1,q1,rfl⟩:=owns_head hrow;have y9:W9.cell? ⟨W2.heap.size,0,none⟩=some (.slice o1 (xWaysL E 0 l.esc l.out).length q1):=(cell_of_row _ _ 0 _ _ _ hbx).trans rfl;have HR9:=Lib.hid (hrow.mono (HLE.out W2 HB2.out));clear hx hbx hrow HLS yb;go_wp2_with fail;refine bodyPost_ret (v:= .slice o1 (xWaysL E 0 l.esc l.out).length q1) (by simp [results,Tryz.results24,go_sem]) rfl ?_;exact ⟨_,rfl,by rw [HVL.out];exact HR9.out,HX9.out⟩
 have hdp:decide (0≤t.provided)=true:=decide_eq_true hpr;have HPR:=Lib.hid hpr;have HEC:=Lib.hid (fun (W:World) (hb:Below W0.heap.size W0 W)=>evalC HO.out t.provided W hpr HPF.out.prov.2 (HEK.out.below hb));obtain ⟨⟨v,er⟩,hev⟩:∃r,evE E t.provided=r:=⟨_,rfl⟩;have HEV:=Lib.hid hev;rw [show evalF E E.m.exprs.length t.provided= (v,er) from hev] at HEC;simp only at HEC;have HQ2:Hid (∀W,Below W2.heap.size W2 W→W.cell? ⟨eb,0,none⟩=some (.pointer (some ⟨pe,0,none⟩))∧W.cell? ⟨g2,off2+tk*10+9,none⟩=some (.int .i64 t.provided)):=Lib.hid fun W hb=>by
  obtain ⟨a1,a2,a3,a4,-⟩:=HQ.out W (keepS HB2.out hb);exact ⟨a1,a4⟩
 have HA0:=Lib.hid (fun (W:World) (hb:Below W2.heap.size W2 W)=>HEC.out W (keepS HB2.out hb));clear hev hpr HEC;go_upto_region 7 with fail
 clear x1 x2 x3 x4 x5 x6 hdp;refine wp_region_kept (by kernel_rfl) (by kernel_rfl) (fun ι hne f hf hcl=> ?_);have z1:∀n,(f n).cell? ⟨eb,0,none⟩=some (.pointer (some ⟨pe,0,none⟩)):=fun n=>(HQ2.out _ (hf n)).1
 have z2:∀n,(f n).cell? ⟨g2,off2+tk*10+9,none⟩=some (.int .i64 t.provided):=fun n=>(HQ2.out _ (hf n)).2
 have HA:=Lib.hid (fun n=>HA0.out _ (hf n));have HFF:=Lib.hid hcl;clear hf hcl HA0 HQ2
 repeat (go_big_quiet_step ((go_at_call 39;with_reducible exact kept_of HFF.out _ (HA.out _))))
 refine wpQuiet_nil ?_;intro W3 hb3;have HB3:=Lib.hid (keepS HB2.out hb3);clear hb3 z1 z2 HA HFF;by_cases h0:er=0;rotate_left
 · have hd0: (er != 0)=true:=by rw [bne_iff_ne];exact h0
   have HVV:Hid (waysF E= [aloneW (-1) (-1) er]):=Lib.hid (by
    rw [HV.out];unfold provE;rw [HPF.out.e2,if_pos HPR.out,HEV.out,if_pos h0,if_pos h0])
   have HAL:=Lib.hid (aloneC (-1) (-1) er W3);clear h0;go_wp2_with fail;refine HAL.out.mono ?_;rintro e W4 ⟨rfl,hb4⟩;have HPO:=Lib.hid (XWaysP.one (aloneW (-1) (-1) er) ((HBE.out.trans (HB3.out.mono HBE.out.size)).trans (hb4.mono (by have:=HBE.out.size;have:=HB3.out.size;omega))));clear hb4 HAL;go_wp2_with fail;refine bodyPost_ret (v:= .slice (some ⟨W4.heap.size,0,none⟩) 1 1) (by simp [results,Tryz.results24,go_sem]) rfl ?_;exact ⟨_,rfl,by rw [HVV.out];exact HPO.out.1,HPO.out.2⟩
 subst h0;by_cases hv:v=0
 · have HVV:Hid (waysF E= []):=Lib.hid (by
    rw [HV.out];unfold provE;rw [HPF.out.e2,if_pos HPR.out,HEV.out];simp [hv])
   subst hv;go_wp2_with fail;refine bodyPost_ret (v:= .slice none 0 0) (by simp [results,Tryz.results24,go_sem]) rfl ?_;exact ⟨.slice none 0 0,rfl,by rw [HVV.out];exact World.ownsRow_nil _ _ _ _,HBE.out.trans (HB3.out.mono HBE.out.size)⟩
 have hdv: (v == 0)=false:=by simpa using hv
 have HVL:Hid (waysF E=xWaysL E 0 l.esc l.out):=Lib.hid (by
  rw [HV.out];unfold provE;rw [HPF.out.e2,if_pos HPR.out,HEV.out];simp [hv])
 have y1:=(HQ.out W3 HB3.out).1;clear hv;have HLS:=Lib.hid (HTL.out W3 HB3.out);have yb: (W3.alloc (.cells #[.slice none 0 0] 45)).cell? ⟨eb,0,none⟩=some (.pointer (some ⟨pe,0,none⟩)):=((ball _).cell (World.block_lt_of_cell? W3 _ (HQ.out W3 HB3.out).1)).trans (HQ.out W3 HB3.out).1;go_wp2_with fail;refine HLS.out.mono ?_;rintro e W9 ⟨rfl,hx⟩;have HX9:=Lib.hid (HWP.out W3 W9 _ HB3.out hx);obtain ⟨v,hbx,hrow⟩:=hx.box;obtain ⟨o1,q1,rfl⟩:=owns_head hrow;have y9:W9.cell? ⟨W3.heap.size,0,none⟩=some (.slice o1 (xWaysL E 0 l.esc l.out).length q1):=(cell_of_row _ _ 0 _ _ _ hbx).trans rfl;have HR9:=Lib.hid (hrow.mono (HLE.out W3 HB3.out));clear hx hbx hrow HLS yb;go_wp2_with fail;refine bodyPost_ret (v:= .slice o1 (xWaysL E 0 l.esc l.out).length q1) (by simp [results,Tryz.results24,go_sem]) rfl ?_;exact ⟨_,rfl,by rw [HVL.out];exact HR9.out,HX9.out⟩
end Go.Proofs.YthfldokfnjpkmaaGreatDoor
namespace Go.Proofs.YthfldokfnjpkmaaGreatDoor
open Go.ChangeShapes Go.WideShapes Go.ChangeAt Go.RowKit
theorem execE_ok {E:EnvD} (h:execE E=0):Ok E∧0≤E.pid∧E.pid < E.s.procs.length:=by
 unfold execE at h;split at h
 · rename_i h1
   exact absurd h h1
 · rename_i h1
   split at h
   · simp at h
   · rename_i h2
     have h3:stateE E.m E.s=0:=by simpa using h1
     unfold stateE at h3;split at h3
     · rename_i h4
       split at h3
       · rename_i h5
         exact ⟨⟨h4,h5,by omega⟩,by omega,by omega⟩
       · simp at h3
     · simp at h3
structure XE (w:World) (ES:Array Value) (h:MH) (hs:SH) (ao:Option Addr) (ac:Nat) (E:EnvD) (W:World):Prop where
 es:ES=eCells h hs ao ac E
 bel:Below w.heap.size w W
 box:W.heap[w.heap.size]? =some (.cells ES 36 (0,0))
 ed:ED w.heap.size W h hs ao E
theorem XE.below {w W W':World} {ES:Array Value} {h:MH} {hs:SH} {ao:Option Addr} {ac:Nat} {E:EnvD} (k:XE w ES h hs ao ac E W) (hb:Below W.heap.size W W'):XE w ES h hs ao ac E W':=⟨k.es,k.bel.trans (hb.mono k.bel.size),(hb.block _ (lt_of_block k.box)).trans k.box,k.ed.below (hb.mono k.bel.size)⟩
theorem XE.new {w:World} {ES:Array Value} {h:MH} {hs:SH} {ao:Option Addr} {ac:Nat} {E:EnvD} (hd:ED w.heap.size w h hs ao E) (hS:ES=eCells h hs ao ac E):XE w ES h hs ao ac E (w.alloc (.cells ES 36)):=⟨hS,ball _,heap_alloc_new _ _,hd.below (ball _)⟩
theorem ED.lift2 {B B':Nat} {w:World} {h:MH} {hs:SH} {ao:Option Addr} {E:EnvD} (k:ED B w h hs ao E) (hB:B≤B'):ED B' w h hs ao E:=⟨k.md.lift hB,k.sd.lift hB,k.able.lift' hB fun _ _ _ _ h=>h⟩
theorem XE.here {w W:World} {ES:Array Value} {h:MH} {hs:SH} {ao:Option Addr} {ac:Nat} {E:EnvD} (k:XE w ES h hs ao ac E W):ED W.heap.size W h hs ao E:=k.ed.lift2 k.bel.size
theorem XE.info {w W:World} {ES:Array Value} {h:MH} {hs:SH} {ao:Option Addr} {ac:Nat} {E:EnvD} (k:XE w ES h hs ao ac E W): (Tryz.prog.info? 36).map (·.size)=some ES.size:=by
 rw [k.es];show _=some 16;kernel_rfl
theorem XE.cell {w W:World} {ES:Array Value} {h:MH} {hs:SH} {ao:Option Addr} {ac:Nat} {E:EnvD} (k:XE w ES h hs ao ac E W) {i:Nat} {v:Value} (hv: (eCells h hs ao ac E)[i]? =some v):W.cell? ⟨w.heap.size,i,none⟩=some v:=(cell_of_row _ _ _ _ _ _ k.box).trans (by rw [k.es];exact hv)
set_option maxHeartbeats 2000000 in
set_option maxRecDepth 100000 in
theorem xcheckC {h:MH} {hs:SH} {ao:Option Addr} {ac:Nat} {E:EnvD} (w:World) (hd:ED w.heap.size w h hs ao E):
 Calls Tryz.prog 22 #[.agg (eCells h hs ao ac E)] w fun e w'=>e= .returned (.int .i64 (execE E))∧Below w.heap.size w w':=by
 obtain ⟨ES,hES⟩:∃c,c=eCells h hs ao ac E:=⟨_,rfl⟩;rw [←hES];have HX:=Lib.hid (XE.new hd hES);have hsl:=hd.sd.procs.1;clear hd hES;go_enter Tryz.func22,Tryz.ntmps22;go_upto_region 1 with fail
 generalize w.alloc (.cells ES 36)=W0 at HX ⊢;have c0:W0.cell? ⟨w.heap.size,0,none⟩=some _:=HX.out.cell rfl;have c1:W0.cell? ⟨w.heap.size,1,none⟩=some _:=HX.out.cell rfl;have c2:W0.cell? ⟨w.heap.size,2,none⟩=some _:=HX.out.cell rfl;have c3:W0.cell? ⟨w.heap.size,3,none⟩=some _:=HX.out.cell rfl;have c4:W0.cell? ⟨w.heap.size,4,none⟩=some _:=HX.out.cell rfl;have c5:W0.cell? ⟨w.heap.size,5,none⟩=some _:=HX.out.cell rfl;have c6:W0.cell? ⟨w.heap.size,6,none⟩=some _:=HX.out.cell rfl;have c7:W0.cell? ⟨w.heap.size,7,none⟩=some _:=HX.out.cell rfl;have c8:W0.cell? ⟨w.heap.size,8,none⟩=some _:=HX.out.cell rfl;have c9:W0.cell? ⟨w.heap.size,9,none⟩=some _:=HX.out.cell rfl;have c10:W0.cell? ⟨w.heap.size,10,none⟩=some _:=HX.out.cell rfl;have c11:W0.cell? ⟨w.heap.size,11,none⟩=some _:=HX.out.cell rfl;have c12:W0.cell? ⟨w.heap.size,12,none⟩=some _:=HX.out.cell rfl;go_wp2_with fail;have HSC:=Lib.hid (stateCheckC W0 HX.out.bel.size HX.out.ed.md HX.out.ed.sd);unfold mV mCells sV sCells at HSC;refine HSC.out.mono ?_;rintro e W1 ⟨rfl,hb1⟩;have HX1:=Lib.hid (HX.out.below hb1);clear hb1 HSC HX c0 c1 c2 c3 c4 c5 c6 c7 c8 c9 c10 c11 c12;obtain ⟨er,her⟩:∃q,stateE E.m E.s=q:=⟨_,rfl⟩;rw [her];have HV:Hid (execE E=if er≠0 then er else if E.pid < 0∨ (E.s.procs.length:Int)≤E.pid then 42 else 0):=Lib.hid (by unfold execE;rw [her]);clear her;have c9:W1.cell? ⟨w.heap.size,9,none⟩=some (.slice hs.po E.s.procs.length hs.pc):=HX1.out.cell rfl;have c13:W1.cell? ⟨w.heap.size,13,none⟩=some (.int .i64 E.pid):=HX1.out.cell rfl;by_cases h0:er=0;rotate_left
 · have hd0: (er != 0)=true:=by rw [bne_iff_ne];exact h0
   have HR:Hid (execE E=er):=Lib.hid (by rw [HV.out,if_pos h0]);go_wp2_with fail;go_ret;exact ⟨retI HR.out.symm,HX1.out.bel⟩
 have hd0: (er != 0)=false:=by rw [bne_eq_false_iff_eq];exact h0
 subst h0;by_cases h1:E.pid < 0
 · have hd1:decide (E.pid < 0)=true:=decide_eq_true h1;have HR:Hid (execE E=42):=Lib.hid (by rw [HV.out,if_neg (by simp),if_pos (.inl h1)]);go_wp2_with fail;go_ret;exact ⟨retI HR.out.symm,HX1.out.bel⟩
 have hd1:decide (E.pid < 0)=false:=decide_eq_false h1;by_cases h2: (E.s.procs.length:Int)≤E.pid
 · have hd2:decide ((E.s.procs.length:Int)≤E.pid)=true:=decide_eq_true h2;have HR:Hid (execE E=42):=Lib.hid (by rw [HV.out,if_neg (by simp),if_pos (.inr h2)]);go_wp2_with fail;go_ret;exact ⟨retI HR.out.symm,HX1.out.bel⟩
 have hd2:decide ((E.s.procs.length:Int)≤E.pid)=false:=decide_eq_false h2;have HR:Hid (execE E=0):=Lib.hid (by rw [HV.out,if_neg (by simp),if_neg (by omega)]);go_wp2_with fail;go_ret;exact ⟨retI HR.out.symm,HX1.out.bel⟩
def WaysX (E:EnvD) (w:World) (e:Ending) (w':World):Prop:=Below w.heap.size w w'∧ (execE E≠0→e= .returned (.tuple #[.slice none 0 0,.int .i64 (execE E)]))∧ (execE E=0→∃o c,e= .returned (.tuple #[.slice o (waysF E).length c,.int .i64 0])∧w'.ownsRow w.heap.size 39 6 (.slice o (waysF E).length c) (waysF E).length (waysV (waysF E)))
set_option maxHeartbeats 2000000 in
set_option maxRecDepth 100000 in
theorem xWaysC {h:MH} {hs:SH} {ao:Option Addr} {ac:Nat} {E:EnvD} (w:World) (hd:ED w.heap.size w h hs ao E) (hno:NoneP w):
 Calls Tryz.prog 18 #[.agg (eCells h hs ao ac E)] w (WaysX E w):=by
 obtain ⟨ES,hES⟩:∃c,c=eCells h hs ao ac E:=⟨_,rfl⟩;rw [←hES];have HX:=Lib.hid (XE.new hd hES);have HNO:=Lib.hid (hno.below (ball (.cells ES 36)));have HES:=Lib.hid hES;clear hd hno hES;go_enter Tryz.func18,Tryz.ntmps18;go_upto_region 1 with fail
 generalize w.alloc (.cells ES 36)=W0 at HX HNO ⊢;go_wp2_with (refine wpList_load_row rfl _ _ rfl _ rfl _ ES _ _ HX.out.box Tryz.underlying36 rfl HX.out.info ?_);have HC:=Lib.hid (xcheckC (ac:=ac) W0 HX.out.here);rw [←HES.out] at HC;refine HC.out.mono ?_;rintro e W1 ⟨rfl,hb1⟩;have HX1:=Lib.hid (HX.out.below hb1);have HNO1:=Lib.hid (HNO.out.below hb1);clear hb1 HC HX HNO;obtain ⟨er,her⟩:∃q,execE E=q:=⟨_,rfl⟩;rw [her];have HER:=Lib.hid her;clear her;by_cases h0:er=0;rotate_left
 · have hd0: (er != 0)=true:=by rw [bne_iff_ne];exact h0
   have HP:Hid (WaysX E w (.returned (.tuple #[.slice none 0 0,.int .i64 er])) W1):=Lib.hid ⟨HX1.out.bel,fun _=>by rw [HER.out],fun h=>absurd (HER.out.symm.trans h) h0⟩;clear h0;go_wp2_with fail;refine bodyPost_ret (v:= .tuple #[.slice none 0 0,.int .i64 er]) (by simp [results,Tryz.results18,go_sem]) rfl ?_;exact HP.out
 subst h0;obtain ⟨hok,hp0,-⟩:=execE_ok HER.out;have HW:=Lib.hid (xwaysC W1 (by rw [←HX1.out.es];exact HX1.out.box) HX1.out.bel.size HX1.out.ed hok hp0 HNO1.out);clear hok hp0;go_wp2_with fail;refine HW.out.mono ?_;rintro e W2 ⟨v,rfl,hr,hb⟩;obtain ⟨o1,c1,rfl⟩:=owns_head hr;have HP:Hid (WaysX E w (.returned (.tuple #[.slice o1 (waysF E).length c1,.int .i64 0])) W2):=Lib.hid ⟨HX1.out.bel.trans (hb.mono HX1.out.bel.size),fun h=>absurd HER.out h,fun _=>⟨o1,c1,rfl,hr.mono HX1.out.bel.size⟩⟩;clear hr hb HW;go_wp2_with fail;refine bodyPost_ret (v:= .tuple #[.slice o1 (waysF E).length c1,.int .i64 0]) (by simp [results,Tryz.results18,go_sem]) rfl ?_;exact HP.out
end Go.Proofs.YthfldokfnjpkmaaGreatDoor
namespace Go.Proofs.YthfldokfnjpkmaaGreatDoor
open Go.ChangeShapes Go.WideShapes Go.ChangeAt Go.RowKit
def inR (v:Int):Prop:= -2147483648≤v∧v≤4294967295
theorem fit_inR {b v:Int} {s:Bool} (h:fitB b s v=true):inR v:=by
 unfold fitB tyB at h;simp only [Bool.and_eq_true,decide_eq_true_eq] at h;obtain ⟨⟨⟨h1,h2⟩,-⟩,h3⟩:=h;obtain ⟨H,p1,p2,p3,p4⟩:=val.pows b h1 h2;rw [p1,p2] at h3;unfold inR;cases s
 · simp at h3;omega
 · simp at h3;omega
theorem fitsL_inR {t:List (Int × Bool)} {l:List Int} (h:fitsL t l=true):∀v ∈ l,inR v:=by
 unfold fitsL at h;simp only [Bool.and_eq_true,decide_eq_true_eq] at h;obtain ⟨h1,h2⟩:=h;intro v hv;obtain ⟨i,hi,rfl⟩:=List.mem_iff_getElem.1 hv;have h3: (t[i]'(by omega),l[i]) ∈ t.zip l:=by
  rw [List.mem_iff_getElem];exact ⟨i,by simp;omega,by simp⟩
 have h4:=List.all_eq_true.1 h2 _ h3;unfold fitZ at h4;exact fit_inR h4
theorem may_globals {m:ModelD} {s:StateD} (h:mayB m s=true):fitsL m.globals s.globals=true∧s.chans.length≤32∧s.procs.length≤16:=by
 unfold mayB mayHeadB at h;simp only [Bool.and_eq_true,decide_eq_true_eq] at h;exact h.1.1.1
theorem may_tail {m:ModelD} {s:StateD} (h:mayB m s=true):0≤s.last∧s.last < 16:=by
 unfold mayB mayTailB at h;simp only [Bool.and_eq_true,decide_eq_true_eq] at h;have:=h.2.1;omega
theorem may_frame {m:ModelD} {s:StateD} (h:mayB m s=true) {p:ProcessD} (hp:p ∈ s.procs):∃t,m.procs[p.type.toNat]? =some t∧fitsL t.frame p.frame=true∧0≤p.loc∧p.loc < t.locs.length∧0≤p.type:=by
 unfold mayB at h;simp only [Bool.and_eq_true] at h;have h3:=List.all_eq_true.1 h.1.2 p hp;unfold procMayB procHeadB procFB at h3;simp only [Bool.and_eq_true,decide_eq_true_eq] at h3;obtain ⟨⟨h4,h5,_⟩,h6⟩:=h3;split at h6
 · rename_i t ht
   simp only [Bool.and_eq_true,decide_eq_true_eq] at h6;exact ⟨t,ht,h6.2,h6.1.1,h6.1.2.1,h4⟩
 · cases h6
theorem slotsL_inR {E:EnvD} (hok:Ok E) (pid:Int):∀v ∈ slotsL E pid,inR v:=by
 unfold slotsL;split
 · exact fitsL_inR (may_globals hok.may).1
 · cases hp:E.s.procs[pid.toNat]? with
   | none=>simp
   | some p=>
     obtain ⟨t,-,h,-⟩:=may_frame hok.may (List.mem_of_getElem? hp);simpa using fitsL_inR h
theorem slotVal_inR {E:EnvD} (hok:Ok E) (pid slot:Int):inR (slotVal E pid slot):=by
 unfold slotVal;rw [List.getD_eq_getElem?_getD];cases hv: (slotsL E pid)[slot.toNat]? with
 | none=>simp [inR]
 | some v=>simpa using slotsL_inR hok pid v (List.mem_of_getElem? hv)
theorem inR_small {v:Int} (h: -2147483648≤v∧v≤2147483647):inR v:=⟨h.1,by omega⟩
def bit (v:Int):Prop:=v=0∨v=1
theorem bit_truth (b:Bool):bit (truthI b):=by cases b <;> simp [bit,truthI]
theorem bit_b2i (b:Bool):bit (val.b2i b):=by cases b <;> simp [bit,val.b2i]
theorem bit_inR {v:Int} (h:bit v):inR v:=by rcases h with h | h <;> simp [inR,h]
theorem two_inR (op a b:Int):inR (val.two op a b).1∧ (13≤op∧op≤18→bit (val.two op a b).1):=by
 have r1:=val.wrap32_range a;have r2:=val.wrap32_range b;by_cases h0:op < 6∨21 < op
 · rw [val.two_else op a b h0];exact ⟨by simp [inR],fun h=>by omega⟩
 have hc:op=6∨op=7∨op=8∨op=9∨op=10∨op=11∨op=12∨op=13∨op=14∨op=15∨op=16∨op=17∨op=18∨op=19∨op=20∨op=21:=by omega
 rcases hc with rfl | rfl | rfl | rfl | rfl | rfl | rfl | rfl | rfl | rfl | rfl | rfl | rfl | rfl | rfl | rfl
 · rw [val.two_6];exact ⟨inR_small (val.wrap32_range _),by omega⟩
 · by_cases hz:wrap32 b=0
   · rw [val.two_7z _ _ hz];exact ⟨by simp [inR],by omega⟩
   · rw [val.two_7 _ _ hz];exact ⟨inR_small (val.wrap32_range _),by omega⟩
 · by_cases hz:wrap32 b=0
   · rw [val.two_8z _ _ hz];exact ⟨by simp [inR],by omega⟩
   · rw [val.two_8 _ _ hz];exact ⟨inR_small (by have:=val.tmod_range (wrap32 a) (wrap32 b) r2 hz;omega),by omega⟩
 · rw [val.two_9];exact ⟨inR_small (val.wrap32_range _),by omega⟩
 · rw [val.two_10];exact ⟨inR_small (val.wrap32_range _),by omega⟩
 · rw [val.two_11];exact ⟨inR_small (val.wrap32_range _),by omega⟩
 · rw [val.two_12];exact ⟨inR_small (val.wrap32_range _),by omega⟩
 · rw [val.two_13];exact ⟨bit_inR (bit_b2i _),fun _=>bit_b2i _⟩
 · rw [val.two_14];exact ⟨bit_inR (bit_b2i _),fun _=>bit_b2i _⟩
 · rw [val.two_15];exact ⟨bit_inR (bit_b2i _),fun _=>bit_b2i _⟩
 · rw [val.two_16];exact ⟨bit_inR (bit_b2i _),fun _=>bit_b2i _⟩
 · rw [val.two_17];exact ⟨bit_inR (bit_b2i _),fun _=>bit_b2i _⟩
 · rw [val.two_18];exact ⟨bit_inR (bit_b2i _),fun _=>bit_b2i _⟩
 · rw [val.two_19];exact ⟨inR_small (val.and_range _ _ r1 r2),by omega⟩
 · rw [val.two_20];exact ⟨inR_small (val.xor_range _ _ r1 r2),by omega⟩
 · rw [val.two_21];exact ⟨inR_small (val.or_range _ _ r1 r2),by omega⟩
theorem one_inR (op a:Int):inR (val.one op a).1∧ (op=4→bit (val.one op a).1):=by
 have r1:=val.wrap32_range a;by_cases h0:op < 3∨5 < op
 · rw [val.one_else op a h0];exact ⟨by simp [inR],by omega⟩
 have hc:op=3∨op=4∨op=5:=by omega
 rcases hc with rfl | rfl | rfl
 · rw [val.one_3];exact ⟨inR_small (val.wrap32_range _),by omega⟩
 · rw [val.one_4];exact ⟨bit_inR (bit_b2i _),fun _=>bit_b2i _⟩
 · rw [val.one_5];exact ⟨by unfold inR;omega,by omega⟩
theorem mem_zipIdx {α:Type} {l:List α} {i:Nat} {x:α} (h:l[i]? =some x): (x,i) ∈ l.zipIdx:=by
 rw [List.mem_iff_getElem?];exact ⟨i,by rw [List.getElem?_zipIdx,h];simp⟩
theorem chan_small {E:EnvD} (hok:Ok E) (n:Int): ((chanNo E n).queue.length:Int)≤16:=by
 unfold chanNo;cases hc:E.s.chans[(n - 1).toNat]? with
 | none=>simp
 | some c=>
   have h1:=hok.may;unfold mayB at h1;simp only [Bool.and_eq_true] at h1;have h3:=List.all_eq_true.1 h1.1.1.2 c (List.mem_of_getElem? hc);unfold chanMayB chanFB at h3;simp only [Bool.and_eq_true] at h3;obtain ⟨-,h6⟩:=h3;split at h6
   · rename_i s hs
     simp only [Bool.and_eq_true,decide_eq_true_eq] at h6;have h7:=(good_gf hok.good).shapes s (List.mem_of_getElem? hs);unfold shapeB at h7;simp only [Bool.and_eq_true,Bool.not_eq_true',decide_eq_false_iff_not] at h7;have h8:=h7.1;have h9:=h6.1;simp only [Option.getD_some];omega
   · cases h6
theorem loc_small {E:EnvD} (hok:Ok E) {p:ProcessD} (hp:p ∈ E.s.procs):0≤p.loc∧p.loc < 256:=by
 obtain ⟨t,ht,-,h1,h2,-⟩:=may_frame hok.may hp;have h3:=(good_gf hok.good).procs _ (mem_zipIdx ht);unfold procB placesB placesHeadB at h3;simp only [Bool.and_eq_true,Bool.not_eq_true',decide_eq_false_iff_not] at h3;have h4:=h3.1.2.1.1;omega
def truthOp (op:Int):Prop:=(13≤op∧op≤18)∨op=4∨op=22∨op=23∨ (26≤op∧op≤30)∨op=34∨op=35∨op=36∨op=38
def Bd (op:Int) (r:Int × Int):Prop:=r.2=0→inR r.1∧ (truthOp op→bit r.1)
theorem Bd.bad {op a b:Int} (h:b≠0):Bd op (a,b):=fun h2=>absurd h2 h
theorem Bd.of {op v:Int} (h1:inR v) (h2:truthOp op→bit v):Bd op (v,0):=fun _=>⟨h1,h2⟩
theorem Bd.bit {op v:Int} (h:bit v):Bd op (v,0):=Bd.of (bit_inR h) fun _=>h
theorem evalB_bd {E:EnvD} (hok:Ok E) {ev:Int→Int × Int} (hev:∀i,(ev i).2=0→inR (ev i).1) {x:ExprD} (hx:exprB E.m x=true):Bd x.op (evalB E ev x):=by
 unfold exprB at hx;simp only [Bool.and_eq_true,decide_eq_true_eq] at hx;obtain ⟨⟨hop,-⟩,hkind⟩:=hx;unfold evalB;by_cases h1:x.op=1
 · rw [if_pos h1];unfold kindB at hkind;rw [if_pos h1] at hkind;exact Bd.of (fit_inR hkind) (fun h=>by unfold truthOp at h;omega)
 rw [if_neg h1];by_cases h2:x.op=2
 · rw [if_pos h2];split
   · rename_i h3;exact Bd.bad h3
   · exact Bd.of (slotVal_inR hok _ _) (fun h=>by unfold truthOp at h;omega)
 rw [if_neg h2];by_cases h3:3≤x.op∧x.op≤5
 · rw [if_pos h3];split
   · rename_i h4;exact Bd.bad h4
   · obtain ⟨h4,h5⟩:=one_inR x.op (ev x.a).1;exact fun _=>⟨h4,fun h=>h5 (by unfold truthOp at h;omega)⟩
 rw [if_neg h3];by_cases h4:22≤x.op∧x.op≤24
 · rw [if_pos h4];unfold chosenB;split
   · rename_i h5;exact Bd.bad h5
   · split
     · exact Bd.bit (.inl rfl)
     · split
       · exact Bd.bit (.inr rfl)
       · split
         · rename_i h8
           split
           · rename_i h9;exact Bd.bad h9
           · rename_i h9;exact Bd.of (hev _ (by omega)) (fun h=>by unfold truthOp at h;omega)
         · split
           · rename_i h9;exact Bd.bad h9
           · rename_i h9
             split
             · exact Bd.of (hev _ (by omega)) (fun h=>by unfold truthOp at h;omega)
             · exact Bd.bit (bit_truth _)
 rw [if_neg h4];by_cases h5:25≤x.op∧x.op≤29
 · rw [if_pos h5];unfold rroomB;split
   · rename_i h6;exact Bd.bad h6
   · unfold roomOp;split
     · exact Bd.bit (bit_truth _)
     · split
       · exact Bd.bit (bit_truth _)
       · split
         · exact Bd.bit (bit_truth _)
         · split
           · exact Bd.bit (bit_truth _)
           · have:=chan_small hok (rchanB E ev x.a).1;exact Bd.of (by unfold inR;omega) (fun h=>by unfold truthOp at h;omega)
 rw [if_neg h5];by_cases h6:x.op=30
 · rw [if_pos h6];unfold rpollB;split
   · rename_i h7;exact Bd.bad h7
   · split
     · exact Bd.bad (by omega)
     · split
       · rename_i h7;exact Bd.bad h7
       · exact Bd.bit (bit_truth _)
 rw [if_neg h6];by_cases h7:31≤x.op∧x.op≤35
 · rw [if_pos h7];unfold knownB;have hm:=may_globals hok.may;have ht:=may_tail hok.may;have hp:=hok.pid;split
   · exact Bd.of (by unfold inR;omega) (fun h=>by unfold truthOp at h;omega)
   · split
     · exact Bd.of (by unfold inR;omega) (fun h=>by unfold truthOp at h;omega)
     · split
       · exact Bd.of (by unfold inR;omega) (fun h=>by unfold truthOp at h;omega)
       · split
         · exact Bd.bit (bit_truth _)
         · exact Bd.bit (bit_truth _)
 rw [if_neg h7];by_cases h8:36≤x.op∧x.op≤38
 · rw [if_pos h8];split
   · rename_i h9;exact Bd.bad h9
   · unfold askedB;split
     · exact Bd.bit (bit_truth _)
     · split
       · exact Bd.bad (by omega)
       · rename_i p hp
         have hmem:p ∈ E.s.procs:=by
          split at hp
          · cases hp
          · exact List.mem_of_getElem? hp
         have hl:=loc_small hok hmem;split
         · exact Bd.of (by unfold inR;omega) (fun h=>by unfold truthOp at h;omega)
         · split
           · exact Bd.bad (by omega)
           · exact Bd.bit (bit_truth _)
 rw [if_neg h8];by_cases h9:x.op=39
 · rw [if_pos h9];exact Bd.bad (by omega)
 rw [if_neg h9];split
 · rename_i h10;exact Bd.bad h10
 · split
   · rename_i h10;exact Bd.bad h10
   · obtain ⟨h10,h11⟩:=two_inR x.op (ev x.a).1 (ev x.b).1;exact fun _=>⟨h10,fun h=>h11 (by unfold truthOp at h;omega)⟩
theorem evalF_inR {E:EnvD} (hok:Ok E):∀ (f:Nat) (i:Int),(evalF E f i).2=0→inR (evalF E f i).1
 | 0,i=>fun _=>by simp [evalF,inR]
 | f+1,i=>by
   unfold evalF;cases hx:E.m.exprs[i.toNat]? with
   | none=>intro _;simp [inR]
   | some x=>
     obtain ⟨hi,hx'⟩:=List.getElem?_eq_some_iff.1 hx;exact fun h=>(evalB_bd hok (evalF_inR hok f) ((good_ex hok).ok i.toNat x hx).1 h).1
end Go.Proofs.YthfldokfnjpkmaaGreatDoor
namespace Go.Proofs.YthfldokfnjpkmaaGreatDoor
open Go.ChangeShapes Go.WideShapes Go.ChangeAt Go.RowKit
theorem globals_small {m:ModelD} (h:goodB m=true):m.globals.length≤128:=by
 unfold goodB checkL at h;rw [decide_eq_true_eq] at h;by_cases h1: (globalsL m).2=false
 · rw [if_pos h1] at h;simp at h
 · unfold globalsL at h1;split at h1
   · simp at h1
   · omega
theorem fits_len {t:List (Int × Bool)} {l:List Int} (h:fitsL t l=true):l.length=t.length:=by
 unfold fitsL at h;simp only [Bool.and_eq_true,decide_eq_true_eq] at h;exact h.1
theorem may_lensB {m:ModelD} {s:StateD} (hg:goodB m=true) (h:mayB m s=true):LensB s:=by
 obtain ⟨h1,h2,h3⟩:=may_globals h;have hgl:=globals_small hg;have h4:=fits_len h1;have hgf:=good_gf hg;refine ⟨by omega,by omega,by omega,fun c hc=> ?_,fun p hp=> ?_⟩
 · unfold mayB at h;simp only [Bool.and_eq_true] at h;have h5:=List.all_eq_true.1 h.1.1.2 c hc;unfold chanMayB chanFB at h5;simp only [Bool.and_eq_true] at h5;obtain ⟨-,h6⟩:=h5;split at h6
   · rename_i sh hs
     simp only [Bool.and_eq_true,decide_eq_true_eq] at h6;have h7:=hgf.shapes sh (List.mem_of_getElem? hs);unfold shapeB at h7;simp only [Bool.and_eq_true,Bool.not_eq_true',decide_eq_false_iff_not] at h7;have h8:=h7.1;have h9:=h6.1;refine ⟨by omega,fun y hy=> ?_⟩;have:=fits_len (List.all_eq_true.1 h6.2 y hy);omega
   · cases h6
 · obtain ⟨t,ht,hf,-⟩:=may_frame h hp;have h5:=fits_len hf;have h6:=hgf.procs _ (mem_zipIdx ht);unfold procB frameB frameHeadB at h6;simp only [Bool.and_eq_true,Bool.not_eq_true',decide_eq_false_iff_not] at h6;have h7:=h6.1.1.1.1;omega
def zeroS:StateD:=⟨[],[],[],0,0,0⟩
def zeroH:SH:=⟨none,0,none,0,none,0⟩
def zeroR (k:Nat × Nat × Nat):RowS:=if k.1=0 then ⟨2,1,.slice none 0 0,0,[]⟩ else if k.1=1 then ⟨81,2,.slice none 0 0,0,[]⟩ else if k.1=2 then ⟨60,4,.slice none 0 0,0,[]⟩ else rowNil
theorem zeroR_nil (k:Nat × Nat × Nat): (zeroR k).v= .slice none 0 0∧ (zeroR k).n=0∧ (zeroR k).xs= []:=by
 unfold zeroR rowNil;split
 · simp
 · split
   · simp
   · split <;> simp
theorem SO.zero (B:Nat) (w:World):SO B w zeroH zeroS:=by
 refine ⟨zeroR,⟨fun k=> ?_,fun k k' _ g hg=> ?_⟩,⟨rfl,⟨[],rfl,fun i hi=>by simp [zeroS] at hi⟩,⟨[],rfl,fun i hi=>by simp [zeroS] at hi⟩⟩⟩
 · obtain ⟨h1,h2,h3⟩:=zeroR_nil k;rw [h1,h2,h3];exact World.ownsRow_nil _ _ _ _
 · rw [(zeroR_nil k).1] at hg;cases hg
end Go.Proofs.YthfldokfnjpkmaaGreatDoor
