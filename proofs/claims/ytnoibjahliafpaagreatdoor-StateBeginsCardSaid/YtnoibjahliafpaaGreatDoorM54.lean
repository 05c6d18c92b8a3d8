/- A row of numbers that came in, opened. -/
import Derived.Test.YtnoibjahliafpaaGreatDoorM50
import Derived.Test.YtnoibjahliafpaaGreatDoorM46
import Derived.Test.YtnoibjahliafpaaGreatDoorM49
import Derived.Test.YtnoibjahliafpaaGreatDoorM38
import Derived.Test.YtnoibjahliafpaaGreatDoorM39
import Derived.Test.YtnoibjahliafpaaGreatDoorM37
import Derived.Test.YtnoibjahliafpaaGreatDoorM34
set_option linter.unusedVariables false
set_option linter.unusedSimpArgs false
namespace Go.Proofs.YtnoibjahliafpaaGreatDoor
open Go.ChangeShapes Go.WideShapes Go.ChangeAt Go.RowKit
variable {H:Type} {enc:TypeId × Value→H} {W:World} {base:Nat} {sp:Nat→Bool} {hd:Bool}
set_option maxRecDepth 100000 in
theorem open_nums {v:Value} {r:Reach} {b0:Nat} {d:DataW H} {p:List MemPlace} (hv:Value.okWide Tryz.prog W r b0 23 v) (h:DataW.Trod enc Tryz.prog W base sp hd 23 v d p) (hw:Fits 23 d):
 ∃ (o:Option Addr) (l:List Int) (c:Nat),v= .slice o l.length c∧Row W.heap.size o 1 (intAt W) l:=by
 obtain ⟨a,len,cap,rfl⟩:=okWide_slice Tryz.underlying23 hv;obtain ⟨fu,hf⟩:=h;obtain ⟨o,l,c,e,hrow⟩:=open_sli Tryz.underlying23 c_int64.1 (by decide) c_int64.2 (by decide) (opens_int Tryz.underlying2) hf hw;have e2: (.slice a len cap:Value)= .slice o l.length c:=by
  have h3: [(.slice a len cap:Value)]= [.slice o l.length c]:=e;injection h3
 exact ⟨o,l,c,e2,hrow⟩
end Go.Proofs.YtnoibjahliafpaaGreatDoor
namespace Go.Proofs.YtnoibjahliafpaaGreatDoor
open Go.ChangeShapes Go.WideShapes Go.ChangeAt Go.RowKit
theorem startsN:∀ (l:List ProcD) (t:Nat),(∀p ∈ l,p.active≤16)→ (startsL t l).length≤16*l.length
 | [],_,_=>by simp [startsL]
 | p :: r,t,h=>by
   have h1:=startsN r (t+1) fun q hq=>h q (List.mem_cons_of_mem _ hq)
   have h2:=h p (List.mem_cons_self ..);simp only [startsL,startsOf,List.length_append,List.length_replicate,List.length_cons];omega
theorem startsM:∀ (l:List ProcD) (t:Nat) (x:ProcessD),x ∈ startsL t l→∃p ∈ l,x.frame.length=p.init.length
 | [],_,x,h=>by simp [startsL] at h
 | p :: r,t,x,h=>by
   simp only [startsL,List.mem_append] at h;rcases h with h | h
   · have e:=List.eq_of_mem_replicate h;exact ⟨p,List.mem_cons_self ..,by rw [e];exact frameK_len _ _ _ _⟩
   · obtain ⟨q,hq,e⟩:=startsM r (t+1) x h;exact ⟨q,List.mem_cons_of_mem _ hq,e⟩
theorem first_lens {m:ModelD} {B:Nat} {w:World} {h:MH} (hg:goodB m=true) (hm:MD B w h m):Lens (firstD m):=by
 have hgp:∀p ∈ m.procs,GP m p:=fun p hp=>by
  obtain ⟨t,ht⟩:=List.mem_iff_getElem?.1 hp;exact good_gp hg ht
 obtain ⟨h1,h2,h3,h4⟩:=good_chans hg;have hpl:=(good_more hg).2.2.1;have hst:=startsN m.procs 0 fun p hp=>(hgp p hp).act.2
 refine ⟨?_, ?_, ?_,fun x hx=> ?_,fun x hx=> ?_⟩
 · show m.init.length≤_;omega
 · show (m.chans.map _).length≤_;rw [List.length_map];omega
 · show (startsL 0 m.procs).length≤_;omega
 · obtain ⟨c,-,rfl⟩:=List.mem_map.1 hx;exact ⟨by simp,fun y hy=>by cases hy⟩
 · obtain ⟨p,hp,e⟩:=startsM _ _ _ hx;have h1:=(hgp p hp).init;have h2:=(hgp p hp).most;omega
theorem first_any {B:Nat} {h:MH} {m:ModelD} (w:World) (hB:B≤w.heap.size) (hm:MD B w h m):
 Calls Tryz.prog 7 #[mV h m] w fun e w'=>∃hs s e0,e= .returned (.tuple #[sV hs s,.int .i64 e0])∧Below w.heap.size w w'∧ (goodB m=true→SO w.heap.size w' hs s∧s=firstD m∧e0=0)∧ (goodB m=false→s.procs= []∧e0=40):=by
 refine (firstC w hB hm).mono ?_;intro e w' hp;cases hg:goodB m with
 | true=>
   obtain ⟨hs,h1,h2,h3⟩:=hp.2 hg;exact ⟨hs,_,0,h1,h3,fun _=>⟨h2,rfl,rfl⟩,fun h=>Bool.noConfusion h⟩
 | false=>
   obtain ⟨h1,h2⟩:=hp.1 hg;exact ⟨_,_,40,h1,h2,fun h=>Bool.noConfusion h,fun _=>⟨rfl,rfl⟩⟩
theorem begin_any {B:Nat} {h:MH} {m:ModelD} {args:List Int} {ao:Option Addr} {ac:Nat} (t:Int) (w:World) (hB:B≤w.heap.size) (hm:MD B w h m) (ha:Row B ao 1 (intAt w) args):
 Calls Tryz.prog 8 #[mV h m,.int .i64 t,.slice ao args.length ac] w fun e w'=>∃a b c fo n fc,e= .returned (.tuple #[.agg #[.int .i64 a,.int .i64 b,.int .i64 c,.slice fo n fc],.int .i64 (beginE m t args)])∧Below w.heap.size w w'∧
  (beginE m t args=0→∃p,m.procs[t.toNat]? =some p∧a=t∧b=p.start∧c=p.prio∧n=p.init.length∧w'.ownsRow w.heap.size 2 1 (.slice fo n fc) n (intsV (frameK p.frame p.init args args.length))):=by
 refine (beginC t w hB hm ha).mono ?_;intro e w' hp;by_cases h0:beginE m t args=0
 · obtain ⟨p,fo,fc,h1,h2,h3,h4⟩:=hp.2 h0;exact ⟨_,_,_,fo,_,fc,by rw [h0];exact h2,h4,fun _=>⟨p,h1,rfl,rfl,rfl,rfl,h3⟩⟩
 · obtain ⟨h1,h2⟩:=hp.1 h0;exact ⟨0,0,0,none,0,0,h1,h2,fun h=>absurd h h0⟩
theorem begin_facts {m:ModelD} {t:Int} {args:List Int} {p:ProcD} (h0:beginE m t args=0) (hp:m.procs[t.toNat]? =some p):goodB m=true∧0≤t∧p.init.length=p.frame.length∧p.init.length*8≤140737488355328∧args.length≤p.frame.length:=by
 unfold beginE at h0;by_cases hg:goodB m=true
 · rw [if_pos hg] at h0;by_cases hc:0≤t∧t < m.procs.length∧t≠m.claim∧ (((m.procs[t.toNat]?).map (·.params)).getD 0)=args.length
   · obtain ⟨c1,-,-,c4⟩:=hc;rw [hp] at c4;have c5:p.params=args.length:=c4;have g:=good_gp hg hp;have g1:=g.init;have g2:=g.most;have g3:=g.par;exact ⟨hg,c1,g1,by omega,by omega⟩
   · rw [if_neg hc] at h0;cases h0
 · rw [if_neg hg] at h0;cases h0
set_option maxRecDepth 100000 in
set_option maxHeartbeats 4000000 in
theorem beginsWalk {h:MH} {m:ModelD} {l:List Int} {ao:Option Addr} {ac:Nat} (z:Int) (w:World) (hmd:MD w.heap.size w h m) (har:Row w.heap.size ao 1 (intAt w) l) (hab:ArgsB m) (htw:TabW w):Calls Tryz.prog 3 #[mV h m,.int .i64 z,.slice ao l.length ac] w fun e w'=>e= .returned (.bool true)∧Below w.heap.size w w':=by
 have HX0:Hid (Mx w w.heap.size (mCells h m) h m (w.alloc (.cells (mCells h m) 29))):=Lib.hid (Mx.new hmd rfl);have HTW:=Lib.hid htw;have HAB:=Lib.hid hab;have HAR:Hid (∀W,Below w.heap.size w W→Row W.heap.size ao 1 (intAt W) l):=Lib.hid fun W hb=>(har.mono fun _ _ _ hg=>intAt.below hb hg).up hb.size
 have HAL:=Lib.hid har.1;clear hmd har hab htw;unfold mV;go_enter Tryz.func3,Tryz.ntmps3;go_upto_region 1 with fail
 generalize w.alloc (.cells (mCells h m) 29)=W0 at HX0 ⊢;go_wp2_with fail;refine (shownC W0 (HTW.out.below HX0.out.bx.bel)).mono ?_;rintro e W1 ⟨rfl,hb1⟩;have HX1:=Lib.hid (HX0.out.below hb1);clear hb1 HX0;go_wp2_with (refine wpList_load_row rfl _ _ rfl w.heap.size rfl _ (mCells h m) _ _ HX1.out.bx.box Tryz.underlying29 rfl HX1.out.info ?_);refine (first_any W1 (Nat.le_refl _) HX1.out.here).mono ?_;rintro e W2 ⟨hs,s,e0,rfl,hb,hyes,hno⟩;have HX2:=Lib.hid ((HX1.out.below hb).below (ball (.cells (sCells hs s) 34)));have HS2:Hid ((W2.alloc (.cells (sCells hs s) 34)).heap[W2.heap.size]? =some (.cells (sCells hs s) 34 (0,0))):=Lib.hid (heap_alloc_new _ _);have HB2:Hid (Below W1.heap.size W1 (W2.alloc (.cells (sCells hs s) 34))):=Lib.hid (hb.alloc hb.size _);have HY2:Hid (goodB m=true→SO W1.heap.size (W2.alloc (.cells (sCells hs s) 34)) hs s∧s=firstD m∧e0=0):=Lib.hid fun hg=>⟨(hyes hg).1.below (ball _),(hyes hg).2⟩
 have HN:=Lib.hid hno;clear hb hyes hno;unfold sCells at HX2 HS2 HB2 HY2;unfold sV sCells;go_upto_region 3 with fail
 obtain ⟨T1,hT1⟩:∃T,W2.heap.size=T:=⟨_,rfl⟩;rw [hT1] at HS2
 try rw [hT1]
 clear hT1;generalize W2.alloc (.cells #[.slice hs.go s.globals.length hs.gc,.slice hs.co s.chans.length hs.cc,.slice hs.po s.procs.length hs.pc,.int .i64 s.last,.int .i64 s.alone,.int .i64 s.claim] 34)=W3 at HX2 HS2 HB2 HY2 ⊢;go_wp2_with (refine wpList_load_row rfl _ _ rfl w.heap.size rfl _ (mCells h m) _ _ HX2.out.bx.box Tryz.underlying29 rfl HX2.out.info ?_);refine (begin_any z W3 (Nat.le_refl _) HX2.out.here (HAR.out W3 HX2.out.bx.bel)).mono ?_;rintro e W4 ⟨pa,pb,pc,fo,n,fc,rfl,hb,hyes⟩;have HX4:=Lib.hid ((HX2.out.below hb).below (ball (.cells #[.int .i64 pa,.int .i64 pb,.int .i64 pc,.slice fo n fc] 39)));have HP4:Hid ((W4.alloc (.cells #[.int .i64 pa,.int .i64 pb,.int .i64 pc,.slice fo n fc] 39)).heap[W4.heap.size]? =some (.cells #[.int .i64 pa,.int .i64 pb,.int .i64 pc,.slice fo n fc] 39 (0,0))):=Lib.hid (heap_alloc_new _ _);have HB4:Hid (Below W3.heap.size W3 (W4.alloc (.cells #[.int .i64 pa,.int .i64 pb,.int .i64 pc,.slice fo n fc] 39))):=Lib.hid (hb.alloc hb.size _);have HF4:Hid (beginE m z l=0→∃p,m.procs[z.toNat]? =some p∧pa=z∧pb=p.start∧pc=p.prio∧n=p.init.length∧ (W4.alloc (.cells #[.int .i64 pa,.int .i64 pb,.int .i64 pc,.slice fo n fc] 39)).ownsRow W3.heap.size 2 1 (.slice fo n fc) n (intsV (frameK p.frame p.init l l.length))):=Lib.hid fun h0=>by
  obtain ⟨p,h1,h2,h3,h4,h5,h6⟩:=hyes h0;exact ⟨p,h1,h2,h3,h4,h5,h6.alloc _⟩
 clear hb hyes;obtain ⟨bE,hbE⟩:∃b,beginE m z l=b:=⟨_,rfl⟩;have HBE:=Lib.hid hbE;rw [hbE] at HF4 ⊢;clear hbE;go_upto_region 4 with fail
 obtain ⟨T2,hT2⟩:∃T,W4.heap.size=T:=⟨_,rfl⟩;rw [hT2] at HP4
 try rw [hT2]
 clear hT2;generalize W4.alloc (.cells #[.int .i64 pa,.int .i64 pb,.int .i64 pc,.slice fo n fc] 39)=W5 at HX4 HP4 HB4 HF4 ⊢;go_wp2_with (refine wpList_load_row rfl _ _ rfl w.heap.size rfl _ (mCells h m) _ _ HX4.out.bx.box Tryz.underlying29 rfl HX4.out.info ?_);have HMAY:=Lib.hid (mayH W5 HX4.out.here HAB.out);obtain ⟨gd,hgd⟩:∃g,goodB m=g:=⟨_,rfl⟩;have HGD:=Lib.hid hgd;have hmg: ((checkL m).1 == 0)=gd:=by rw [←hgd];unfold goodB;rw [Bool.eq_iff_iff,decide_eq_true_eq,beq_iff_eq]
 rw [hmg] at HMAY;clear hgd hmg;refine HMAY.out.mono ?_;rintro e W6 ⟨rfl,hb⟩;have HX6:=Lib.hid (HX4.out.below hb);have HB6:=Lib.hid (HB4.out.trans (hb.mono HB4.out.size));have HP6:=Lib.hid ((hb.block _ (lt_of_block HP4.out)).trans HP4.out);have HF6:Hid (bE=0→∃p,m.procs[z.toNat]? =some p∧pa=z∧pb=p.start∧pc=p.prio∧n=p.init.length∧W6.ownsRow W3.heap.size 2 1 (.slice fo n fc) n (intsV (frameK p.frame p.init l l.length))):=Lib.hid fun h0=>by
  obtain ⟨p,h1,h2,h3,h4,h5,h6⟩:=HF4.out h0;exact ⟨p,h1,h2,h3,h4,h5,owns_below h6 hb⟩
 clear hb HMAY HX4 HB4 HP4 HF4;go_wp2_with (refine wpList_load_row rfl _ _ rfl w.heap.size rfl _ (mCells h m) _ _ HX6.out.bx.box Tryz.underlying29 rfl HX6.out.info ?_);have HBG:=Lib.hid (begins12H z W6 HX6.out.here HAB.out HAL.out (ao:=ao) (ac:=ac));rw [HBE.out] at HBG;refine HBG.out.mono ?_;rintro e W7 ⟨rfl,hb⟩;have HX7:=Lib.hid (HX6.out.below hb);have HB7:=Lib.hid (HB6.out.trans (hb.mono HB6.out.size));have HP7:=Lib.hid ((hb.block _ (lt_of_block HP6.out)).trans HP6.out);have HF7:Hid (bE=0→∃p,m.procs[z.toNat]? =some p∧pa=z∧pb=p.start∧pc=p.prio∧n=p.init.length∧W7.ownsRow W3.heap.size 2 1 (.slice fo n fc) n (intsV (frameK p.frame p.init l l.length))):=Lib.hid fun h0=>by
  obtain ⟨p,h1,h2,h3,h4,h5,h6⟩:=HF6.out h0;exact ⟨p,h1,h2,h3,h4,h5,owns_below h6 hb⟩
 clear hb HBG HX6 HB6 HP6 HF6;have hne: (bE != bE)=false:=by simp
 go_upto_region 8 with fail
 clear hne
 go_upto_if 43 with fail
 go_cut [14,15] from 44 to 75 (fun v14 v15 W'=>Hid (Below W7.heap.size W7 W'))
 case first=>
  by_cases h0:bE=0;rotate_left
  · have hq: (bE == 0)=false:=by simpa using h0
    go_wp2_with fail;go_meet;exact Lib.hid (Below.refl _ _)
  have hq: (bE == 0)=true:=by simpa using h0
  obtain ⟨p,hp,rfl,rfl,rfl,hn,hown⟩:=HF7.out h0;obtain ⟨hg,hz0,hpi,hil,hal⟩:=begin_facts (HBE.out.trans h0) hp;obtain ⟨k,rfl⟩:∃k:Nat,pa=k:=⟨pa.toNat,by omega⟩;rw [Int.toNat_natCast] at hp;have HBW:=Lib.hid (begin12H (t:=k) (ac:=ac) W7 (Nat.le_refl _) HX7.out.here hp hpi hil (HAR.out W7 HX7.out.bx.bel) hal);obtain ⟨F,hF⟩:∃F,frameK p.frame p.init l l.length=F:=⟨_,rfl⟩;have hFl:F.length=p.init.length:=by rw [←hF];exact frameK_len _ _ _ _
  have HFB:Hid (F.length≤140737488355328):=Lib.hid (by omega);unfold BegP at HBW;rw [hF] at hown HBW;obtain rfl:n=F.length:=hn.trans hFl.symm;rw [←hFl] at HBW;have HOW:=Lib.hid hown;subst h0;clear hq hp hg hz0 hpi hil hal hF hFl hn hown HF7;go_wp2_with (refine wpList_load_row rfl _ _ rfl w.heap.size rfl _ (mCells h m) _ _ HX7.out.bx.box Tryz.underlying29 rfl HX7.out.info ?_);refine HBW.out.mono ?_;rintro e W8 ⟨fo2,fc2,rfl,hown2,hb⟩;have HB9:Hid (Below W7.heap.size W7 (W8.alloc (.cells #[.int .i64 k,.int .i64 p.start,.int .i64 p.prio,.slice fo2 F.length fc2] 39))):=Lib.hid (hb.alloc hb.size _);have HQ9:Hid ((W8.alloc (.cells #[.int .i64 k,.int .i64 p.start,.int .i64 p.prio,.slice fo2 F.length fc2] 39)).heap[W8.heap.size]? =some (.cells #[.int .i64 k,.int .i64 p.start,.int .i64 p.prio,.slice fo2 F.length fc2] 39 (0,0))):=Lib.hid (heap_alloc_new _ _);have HO9:=Lib.hid (hown2.alloc (.cells #[.int .i64 k,.int .i64 p.start,.int .i64 p.prio,.slice fo2 F.length fc2] 39));clear hb hown2 HBW;go_upto_region 10 with fail
  obtain ⟨T3,hT3⟩:∃T,W8.heap.size=T:=⟨_,rfl⟩;rw [hT3] at HQ9
  try rw [hT3]
  clear hT3;generalize W8.alloc (.cells #[.int .i64 k,.int .i64 p.start,.int .i64 p.prio,.slice fo2 F.length fc2] 39)=W9 at HB9 HQ9 HO9 ⊢;have HP9:=Lib.hid ((HB9.out.block _ (lt_of_block HP7.out)).trans HP7.out);have HNU:=Lib.hid (numbers12H (B:=W9.heap.size) F F fo fo2 fc fc2 W9 (Nat.le_refl _) (ints_row (owns_below HOW.out HB9.out) rfl HFB.out) (ints_row HO9.out rfl HFB.out));rw [decide_eq_true (rfl:F=F)] at HNU;have x3:W9.cell? ⟨T2,3,none⟩=some (.slice fo F.length fc):=(cell_of_row _ _ 3 _ _ _ HP9.out).trans rfl;have y3:W9.cell? ⟨T3,3,none⟩=some (.slice fo2 F.length fc2):=(cell_of_row _ _ 3 _ _ _ HQ9.out).trans rfl;go_wp2_with fail;refine HNU.out.mono ?_;rintro e W10 ⟨rfl,hb⟩;have HP10:=Lib.hid ((hb.block _ (lt_of_block HP9.out)).trans HP9.out);have HQ10:=Lib.hid ((hb.block _ (lt_of_block HQ9.out)).trans HQ9.out);have HB10:=Lib.hid (HB9.out.trans (hb.mono HB9.out.size));clear hb x3 y3 HNU HP9 HQ9 HB9 HO9 HOW;have x0:W10.cell? ⟨T2,0,none⟩=some (.int .i64 k):=(cell_of_row _ _ 0 _ _ _ HP10.out).trans rfl;have x1:W10.cell? ⟨T2,1,none⟩=some (.int .i64 p.start):=(cell_of_row _ _ 1 _ _ _ HP10.out).trans rfl;have x2:W10.cell? ⟨T2,2,none⟩=some (.int .i64 p.prio):=(cell_of_row _ _ 2 _ _ _ HP10.out).trans rfl;have y0:W10.cell? ⟨T3,0,none⟩=some (.int .i64 k):=(cell_of_row _ _ 0 _ _ _ HQ10.out).trans rfl;have y1:W10.cell? ⟨T3,1,none⟩=some (.int .i64 p.start):=(cell_of_row _ _ 1 _ _ _ HQ10.out).trans rfl;have y2:W10.cell? ⟨T3,2,none⟩=some (.int .i64 p.prio):=(cell_of_row _ _ 2 _ _ _ HQ10.out).trans rfl;have n0: ((k:Int) != k)=false:=by simp
  have n1: (p.start != p.start)=false:=by simp
  have n2: (p.prio != p.prio)=false:=by simp
  go_wp2_with fail;go_meet;exact HB10
 case rest=>
 rename World=>Wr
 have HX8:=Lib.hid (HX7.out.below hcut.out);have HB8:=Lib.hid (HB7.out.trans (hcut.out.mono HB7.out.size));clear hcut HX7 HB7 HP7 HF7;have HS8:=Lib.hid ((HB8.out.block _ (lt_of_block HS2.out)).trans HS2.out);cases gd
 · obtain ⟨hpr,he⟩:=HN.out HGD.out;have hlen:s.procs.length=0:=by rw [hpr];rfl
   have x2:Wr.cell? ⟨T1,2,none⟩=some (.slice hs.po 0 hs.pc):=(cell_of_row _ _ 2 _ _ _ HS8.out).trans (by rw [←hlen];rfl);subst he;clear hpr hlen;go_wp2_with fail;go_ret;exact ⟨rfl,HX8.out.bx.bel⟩
 obtain ⟨hso,hsf,he⟩:=HY2.out HGD.out;subst he;have HLN:Hid (Lens s):=Lib.hid (by rw [hsf];exact first_lens HGD.out HX8.out.md);have HSO:=Lib.hid hso;have HFR:Hid (∀W,MD W.heap.size W h m→Calls Tryz.prog 14 #[mV h m] W fun e w'=>∃h9,e= .returned (sV h9 s)∧SD w'.heap.size w' h9 s∧Below W.heap.size W w'):=Lib.hid fun W hd=>(first12H W hd HGD.out).mono fun e w' hp=>by
  obtain ⟨h9,h1,h2,h3⟩:=hp;rw [←hsf] at h1 h2;exact ⟨h9,h1,h2.sd HLN.out,h3⟩
 have HST:Hid (Stb T1 W3.heap.size hs s Wr):=Lib.hid ⟨HS8.out,HB8.out.size,(hso.sd HLN.out).below HB8.out⟩;have HSF:=Lib.hid hsf;clear hso hsf HS8;go_upto_region 15 with fail
 go_cut [16] from 89 to 92 (fun v1 W'=>v1= .bool true∧Below Wr.heap.size Wr W')
 case first=>
  have y0:∀W',Below Wr.heap.size Wr W'→W'.cell? ⟨w.heap.size,0,none⟩=some (.slice h.go m.globals.length h.gc):=fun W' hb=>(HX8.out.below hb).bx.cell rfl
  have y1:∀W',Below Wr.heap.size Wr W'→W'.cell? ⟨w.heap.size,1,none⟩=some (.slice h.io m.init.length h.ic):=fun W' hb=>(HX8.out.below hb).bx.cell rfl
  have y2:∀W',Below Wr.heap.size Wr W'→W'.cell? ⟨w.heap.size,2,none⟩=some (.slice h.so m.shapes.length h.sc):=fun W' hb=>(HX8.out.below hb).bx.cell rfl
  have y3:∀W',Below Wr.heap.size Wr W'→W'.cell? ⟨w.heap.size,3,none⟩=some (.slice h.co m.chans.length h.cc):=fun W' hb=>(HX8.out.below hb).bx.cell rfl
  have y4:∀W',Below Wr.heap.size Wr W'→W'.cell? ⟨w.heap.size,4,none⟩=some (.slice h.po m.procs.length h.pc):=fun W' hb=>(HX8.out.below hb).bx.cell rfl
  have y5:∀W',Below Wr.heap.size Wr W'→W'.cell? ⟨w.heap.size,5,none⟩=some (.int .i64 m.claim):=fun W' hb=>(HX8.out.below hb).bx.cell rfl
  have y6:∀W',Below Wr.heap.size Wr W'→W'.cell? ⟨w.heap.size,6,none⟩=some (.slice h.eo m.exprs.length h.ec):=fun W' hb=>(HX8.out.below hb).bx.cell rfl
  have z0:∀W',Below Wr.heap.size Wr W'→W'.cell? ⟨T1,0,none⟩=some (.slice hs.go s.globals.length hs.gc):=fun W' hb=>(cell_of_row _ _ 0 _ _ _ (HST.out.below hb).box).trans rfl
  have z1:∀W',Below Wr.heap.size Wr W'→W'.cell? ⟨T1,1,none⟩=some (.slice hs.co s.chans.length hs.cc):=fun W' hb=>(cell_of_row _ _ 1 _ _ _ (HST.out.below hb).box).trans rfl
  have z2:∀W',Below Wr.heap.size Wr W'→W'.cell? ⟨T1,2,none⟩=some (.slice hs.po s.procs.length hs.pc):=fun W' hb=>(cell_of_row _ _ 2 _ _ _ (HST.out.below hb).box).trans rfl
  have z3:∀W',Below Wr.heap.size Wr W'→W'.cell? ⟨T1,3,none⟩=some (.int .i64 s.last):=fun W' hb=>(cell_of_row _ _ 3 _ _ _ (HST.out.below hb).box).trans rfl
  have z4:∀W',Below Wr.heap.size Wr W'→W'.cell? ⟨T1,4,none⟩=some (.int .i64 s.alone):=fun W' hb=>(cell_of_row _ _ 4 _ _ _ (HST.out.below hb).box).trans rfl
  have z5:∀W',Below Wr.heap.size Wr W'→W'.cell? ⟨T1,5,none⟩=some (.int .i64 s.claim):=fun W' hb=>(cell_of_row _ _ 5 _ _ _ (HST.out.below hb).box).trans rfl
  have hD:Below Wr.heap.size Wr Wr.drew:=(Below.refl _ _).drew
  go_region_law
   (first
     | (go_simp;go_at_call 14;refine (HFR.out _ (HX8.out.below hD).here).mono ?_;rintro e Wa ⟨ha,rfl,hsa,hba⟩;have hBa:Below Wr.heap.size Wr Wa:=hD.trans (hba.mono hD.size);have HSa:=Lib.hid hsa;clear hsa hba;unfold sV sCells)
     | (go_simp;go_at_call 13;refine (same12H s s hs ha Wa (Nat.le_refl _) (HST.out.below hBa).here HSa.out).mono ?_;rintro e Wb ⟨rfl,hbb⟩;rw [sameB_yes rfl];have hBb:Below Wr.heap.size Wr Wb:=hBa.trans (hbb.mono hBa.size);clear hbb))
  all_goals (
   try simp only [Exit.inBlock,Exit.then]
   go_wp2_with fail;go_meet;exact ⟨rfl,hBb⟩)
 case rest=>
 rename World=>Ws
 obtain ⟨rfl,hbc⟩:=hcut;have HST2:=Lib.hid (HST.out.below hbc);have HBC:=Lib.hid (HB8.out.trans (hbc.mono HB8.out.size));have HBD:=Lib.hid (HB2.out.trans (HBC.out.mono HB2.out.size));have HSP:=Lib.hid (spoilC Ws HBD.out.size (HSO.out.below HBC.out) HLN.out);clear hbc HST HX8 HB8;go_wp2_with (refine wpList_load_row rfl _ _ rfl T1 rfl _ (sCells hs s) _ _ HST2.out.box Tryz.underlying34 rfl (st_info _ _) ?_);refine HSP.out.mono ?_;rintro e W11 ⟨rfl,hb⟩;have HX11:=Lib.hid (HX1.out.below (HBD.out.trans hb));clear hb HSP HST2 HBC HBD HSO HX1 HX2 HB2 HS2 HY2;go_wp2_with (refine wpList_load_row rfl _ _ rfl w.heap.size rfl _ (mCells h m) _ _ HX11.out.bx.box Tryz.underlying29 rfl HX11.out.info ?_);refine (firstC W11 (Nat.le_refl _) HX11.out.here).mono ?_;rintro e W12 hfp;obtain ⟨ht,rfl,hso,hb⟩:=hfp.2 HGD.out;rw [←HSF.out] at hso ⊢;have HX12:=Lib.hid ((HX11.out.below hb).below (ball (.cells (sCells ht s) 34)));have HST:=Lib.hid (Stb.new (hso.sd HLN.out));clear hb hso hfp HX11;unfold sCells at HX12 HST;unfold sV sCells;go_upto_region 18 with fail
 obtain ⟨T4,hT4⟩:∃T,W12.heap.size=T:=⟨_,rfl⟩;rw [hT4] at HST
 try rw [hT4]
 clear hT4;generalize W12.alloc (.cells #[.slice ht.go s.globals.length ht.gc,.slice ht.co s.chans.length ht.cc,.slice ht.po s.procs.length ht.pc,.int .i64 s.last,.int .i64 s.alone,.int .i64 s.claim] 34)=Wt at HX12 HST ⊢
 go_cut [19] from 100 to 103 (fun v1 W'=>v1= .bool true∧Below Wt.heap.size Wt W')
 case first=>
  have y0:∀W',Below Wt.heap.size Wt W'→W'.cell? ⟨w.heap.size,0,none⟩=some (.slice h.go m.globals.length h.gc):=fun W' hb=>(HX12.out.below hb).bx.cell rfl
  have y1:∀W',Below Wt.heap.size Wt W'→W'.cell? ⟨w.heap.size,1,none⟩=some (.slice h.io m.init.length h.ic):=fun W' hb=>(HX12.out.below hb).bx.cell rfl
  have y2:∀W',Below Wt.heap.size Wt W'→W'.cell? ⟨w.heap.size,2,none⟩=some (.slice h.so m.shapes.length h.sc):=fun W' hb=>(HX12.out.below hb).bx.cell rfl
  have y3:∀W',Below Wt.heap.size Wt W'→W'.cell? ⟨w.heap.size,3,none⟩=some (.slice h.co m.chans.length h.cc):=fun W' hb=>(HX12.out.below hb).bx.cell rfl
  have y4:∀W',Below Wt.heap.size Wt W'→W'.cell? ⟨w.heap.size,4,none⟩=some (.slice h.po m.procs.length h.pc):=fun W' hb=>(HX12.out.below hb).bx.cell rfl
  have y5:∀W',Below Wt.heap.size Wt W'→W'.cell? ⟨w.heap.size,5,none⟩=some (.int .i64 m.claim):=fun W' hb=>(HX12.out.below hb).bx.cell rfl
  have y6:∀W',Below Wt.heap.size Wt W'→W'.cell? ⟨w.heap.size,6,none⟩=some (.slice h.eo m.exprs.length h.ec):=fun W' hb=>(HX12.out.below hb).bx.cell rfl
  have z0:∀W',Below Wt.heap.size Wt W'→W'.cell? ⟨T4,0,none⟩=some (.slice ht.go s.globals.length ht.gc):=fun W' hb=>(cell_of_row _ _ 0 _ _ _ (HST.out.below hb).box).trans rfl
  have z1:∀W',Below Wt.heap.size Wt W'→W'.cell? ⟨T4,1,none⟩=some (.slice ht.co s.chans.length ht.cc):=fun W' hb=>(cell_of_row _ _ 1 _ _ _ (HST.out.below hb).box).trans rfl
  have z2:∀W',Below Wt.heap.size Wt W'→W'.cell? ⟨T4,2,none⟩=some (.slice ht.po s.procs.length ht.pc):=fun W' hb=>(cell_of_row _ _ 2 _ _ _ (HST.out.below hb).box).trans rfl
  have z3:∀W',Below Wt.heap.size Wt W'→W'.cell? ⟨T4,3,none⟩=some (.int .i64 s.last):=fun W' hb=>(cell_of_row _ _ 3 _ _ _ (HST.out.below hb).box).trans rfl
  have z4:∀W',Below Wt.heap.size Wt W'→W'.cell? ⟨T4,4,none⟩=some (.int .i64 s.alone):=fun W' hb=>(cell_of_row _ _ 4 _ _ _ (HST.out.below hb).box).trans rfl
  have z5:∀W',Below Wt.heap.size Wt W'→W'.cell? ⟨T4,5,none⟩=some (.int .i64 s.claim):=fun W' hb=>(cell_of_row _ _ 5 _ _ _ (HST.out.below hb).box).trans rfl
  have hD:Below Wt.heap.size Wt Wt.drew:=(Below.refl _ _).drew
  go_region_law
   (first
     | (go_simp;go_at_call 14;refine (HFR.out _ (HX12.out.below hD).here).mono ?_;rintro e Wa ⟨ha,rfl,hsa,hba⟩;have hBa:Below Wt.heap.size Wt Wa:=hD.trans (hba.mono hD.size);have HSa:=Lib.hid hsa;clear hsa hba;unfold sV sCells)
     | (go_simp;go_at_call 13;refine (same12H s s ht ha Wa (Nat.le_refl _) (HST.out.below hBa).here HSa.out).mono ?_;rintro e Wb ⟨rfl,hbb⟩;rw [sameB_yes rfl];have hBb:Below Wt.heap.size Wt Wb:=hBa.trans (hbb.mono hBa.size);clear hbb))
  all_goals (
   try simp only [Exit.inBlock,Exit.then]
   go_wp2_with fail;go_meet;exact ⟨rfl,hBb⟩)
 case rest=>
 rename World=>Wu
 obtain ⟨rfl,hbc⟩:=hcut;have HBZ:=Lib.hid (HX12.out.bx.bel.trans (hbc.mono HX12.out.bx.bel.size));clear hbc HX12 HST HFR;go_wp2_with fail;go_ret;exact ⟨rfl,HBZ.out⟩
end Go.Proofs.YtnoibjahliafpaaGreatDoor
