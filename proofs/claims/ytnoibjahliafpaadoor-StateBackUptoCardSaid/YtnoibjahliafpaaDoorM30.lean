/- The program's reader of a state, walked: every model, whatever numbers are left. -/
import Derived.Test.YtnoibjahliafpaaDoorM28
import Derived.Test.YtnoibjahliafpaaDoorM29
set_option linter.unusedVariables false
set_option linter.unusedSimpArgs false
namespace Go.Proofs.YtnoibjahliafpaaDoor
open Go.ChangeShapes Go.WideShapes Go.ChangeAt Go.RowKit
def StP (rb mb lb:Nat) (x:StateD × RdS) (W:World) (e:Ending) (W':World):Prop:=
 ∃hs,e= .returned (sV hs x.1)∧SRow W.heap.size W' hs x.1∧RX rb mb lb x.2 W'∧W.grownBy W' (some rb)
theorem many_stop {α:Type} (g:RdS→α × RdS) (n:Nat) (l:List α) (r:RdS) (h:n=0∨r.wrong=true):manyF g n l r= (l,r):=by
 cases n with
 | zero=>rfl
 | succ n=>
   rw [manyF,if_pos];rcases h with h | h
   · omega
   · exact h
theorem many_go {α:Type} (g:RdS→α × RdS) (n:Nat) (l:List α) (r:RdS) (h:r.wrong=false):manyF g (n+1) l r=manyF g n (l ++ [(g r).1]) (g r).2:=by
 rw [manyF,if_neg (by rw [h];simp)]
def ChSm (l:List ChanD) (n:Nat):Prop:=l.length+n≤33∧∀c ∈ l,c.queue.length≤17∧∀q ∈ c.queue,q.length≤8
def PrSm (l:List ProcessD) (n:Nat):Prop:=l.length+n≤17∧∀p ∈ l,p.frame.length≤128
set_option maxRecDepth 100000 in
set_option maxHeartbeats 4000000 in
theorem stateC {rb mb lb:Nat} {h:MH} {m:ModelD} {r:RdS} (W:World) (hx:RX rb mb lb r W) (hm:RM rb mb lb h m W) (hg128:m.globals.length≤128) (hp0:0 < m.procs.length) (hfs:∀s ∈ m.shapes,s.fields.length≤8) (hfp:∀p ∈ m.procs,p.frame.length≤128):
 Calls Tryd.prog 15 #[.pointer (some ⟨rb,0,none⟩)] W (StP rb mb lb (stF m r) W):=by
 have HX:=Lib.hid hx;have HM:=Lib.hid hm;have HFS:=Lib.hid hfs;have HFP:=Lib.hid hfp;have HP0:=Lib.hid hp0;clear hx hm hfs hfp hp0;have HX1:=Lib.hid (HX.out.below (ball (.cells #[.slice none 0 0,.slice none 0 0,.slice none 0 0,.int .i64 0,.int .i64 0,.int .i64 0] 33)));have HM1:=Lib.hid (HM.out.below HX.out.lt (ball (.cells #[.slice none 0 0,.slice none 0 0,.slice none 0 0,.int .i64 0,.int .i64 0,.int .i64 0] 33)));have HO1:Hid ((W.alloc (.cells #[.slice none 0 0,.slice none 0 0,.slice none 0 0,.int .i64 0,.int .i64 0,.int .i64 0] 33)).heap[W.heap.size]? =some (.cells #[.slice none 0 0,.slice none 0 0,.slice none 0 0,.int .i64 0,.int .i64 0,.int .i64 0] 33 (0,0))):=Lib.hid (heap_alloc_new _ _);have HG1:Hid (W.grownBy (W.alloc (.cells #[.slice none 0 0,.slice none 0 0,.slice none 0 0,.int .i64 0,.int .i64 0,.int .i64 0] 33)) (some rb)):=Lib.hid (gb_below (ball _));go_enter Tryd.func15,Tryd.ntmps15;go_upto_region 1 with fail
 generalize W.alloc (.cells #[.slice none 0 0,.slice none 0 0,.slice none 0 0,.int .i64 0,.int .i64 0,.int .i64 0] 33)=W1 at HX1 HM1 HO1 HG1 ⊢;have c0:=HX1.out.c0;have m0:W1.cell? ⟨mb,0,none⟩=some (.slice h.go m.globals.length h.gc):=HM1.out.cell rfl;have HLI:=Lib.hid (listC m.globals.length (W:=W1) (by omega) HX1.out);have HGL:=Lib.hid (li_len m.globals.length r);obtain ⟨g,hg⟩:∃l,(liF m.globals.length r).1=l:=⟨_,rfl⟩;obtain ⟨r1,hr1⟩:∃l,(liF m.globals.length r).2=l:=⟨_,rfl⟩;have HE1:Hid (gsF m r= (g,r1)):=Lib.hid (by unfold gsF;rw [←hg,←hr1]);rw [hg] at HGL;rw [hg,hr1] at HLI;obtain ⟨n,hn⟩:∃n,m.globals.length=n:=⟨_,rfl⟩;rw [hn] at HLI HGL hg128 m0;clear hg hr1 hn;go_wp2_with fail;refine HLI.out.mono ?_;rintro e W2 ⟨go,gc,rfl,hol,hx2,hg2⟩;have HL0:Hid (SL W rb mb lb W2.heap.size W.heap.size h m ⟨g,[],[],0,0,0⟩ ⟨go,gc,none,0,none,0⟩ r1 (W2.alloc (.cells #[.slice go n gc,.slice none 0 0,.slice none 0 0,.int .i64 0,.int .i64 0,.int .i64 0] 33))):=Lib.hid (by
  have hb:Below W2.heap.size W2 (W2.alloc (.cells #[.slice go n gc,.slice none 0 0,.slice none 0 0,.int .i64 0,.int .i64 0,.int .i64 0] 33)):=ball _;have hrl:=HX.out.lt;have ho2:=gb_heap hg2 HO1.out (by omega);have hg:=gb_trans HG1.out hg2;refine ⟨?_,CR.nil _ _,PRr.nil _ _, ?_,(hb.block _ (lt_of_block ho2)).trans ho2,hx2.below hb,(HM1.out.gb HX1.out.lt hg2).below hx2.lt hb,gb_trans hg (gb_below hb),hrl,hg.size,Nat.le_refl _,by have:=lt_of_block ho2;omega⟩
  · simp only [HGL.out];exact owns_below (Joins.ownsRow_le hol HG1.out.size) hb
  · simp only [sCells,HGL.out];exact heap_alloc_new _ _)
 obtain ⟨sb,hsb⟩:∃b,W2.heap.size=b:=⟨_,rfl⟩;obtain ⟨ob,hob⟩:∃b,W.heap.size=b:=⟨_,rfl⟩;rw [hsb] at HL0;have HOB:=Lib.hid hob;clear hol hx2 hg2 HLI c0 m0;go_upto_region 2 with fail
 try rw [hsb]
 try rw [hob]
 rw [hob] at HL0;clear hsb hob HX1 HM1 HO1 HG1;generalize W2.alloc (.cells #[.slice go n gc,.slice none 0 0,.slice none 0 0,.int .i64 0,.int .i64 0,.int .i64 0] 33)=W3 at HL0 ⊢;have HBL:=Lib.hid (belowC 33 HL0.out.x);have HR2:=Lib.hid (be_lt (most:=33) (by omega) r1);obtain ⟨cn,hcn⟩:∃v,(beF 33 r1).1=v:=⟨_,rfl⟩;obtain ⟨r2,hr2⟩:∃v,(beF 33 r1).2=v:=⟨_,rfl⟩;rw [hcn] at HR2;rw [hcn,hr2] at HBL;obtain ⟨k,rfl⟩:∃k:Nat,cn=k:=⟨cn.toNat,by have:=HR2.out;omega⟩;obtain ⟨C,hC⟩:∃C,(manyF (chF m) k [] r2).1=C:=⟨_,rfl⟩;obtain ⟨rC,hrC⟩:∃C,(manyF (chF m) k [] r2).2=C:=⟨_,rfl⟩;have HE2:Hid (csF m r1= (C,rC)):=Lib.hid (by unfold csF;rw [hcn,hr2,Int.toNat_natCast,←hC,←hrC]);have HMC:Hid (manyF (chF m) k [] r2= (C,rC)):=Lib.hid (by rw [←hC,←hrC]);clear hcn hr2 hC hrC;go_upto_block 0 with (refine HBL.out.mono ?_;rintro e W4 ⟨rfl,hx4,hg4⟩;have HL4:=Lib.hid (HL0.out.read hx4 hg4);clear hx4 hg4)
 clear HBL HL0;have hk33: (k:Int) < 33:=HR2.out.2;have HC0:Hid (ChSm [] k):=Lib.hid ⟨by simp;omega,fun c hc=>by cases hc⟩;obtain ⟨ic,hi1,hi2,hi3,hi4⟩:=info_parts info_chans;have HIC:=Lib.hid (And.intro hi1 (And.intro hi2 (And.intro hi3 hi4)));clear hi1 hi2 hi3 hi4
 go_cut [4] from 19 (fun v W'=>Hid (∃hs,SL W rb mb lb sb ob h m ⟨g,C,[],0,0,0⟩ hs rC W')∧Hid (ChSm C 0))
 case first=>
  go_wp2_with fail
  go_loopw [4] (fun iv W'=>∃i:Nat,iv= .int .i64 i∧i < 33∧Hid (∃hs cs rr,SL W rb mb lb sb ob h m ⟨g,cs,[],0,0,0⟩ hs rr W'∧manyF (chF m) i cs rr= (C,rC)∧ChSm cs i)) (fun iv _=>(intOf iv).toNat)
  case atStart=>exact ⟨k,rfl,by omega,Lib.hid ⟨_,_,_,HL4.out,HMC.out,HC0.out⟩⟩
  case round=>
   clear HL4 HMC HC0;obtain ⟨i,rfl,hi,HLX⟩:=hrel;obtain ⟨hs,cs,rr,hsl,hmc,hsm⟩:=HLX.out;obtain ⟨hgo,hgc,hco,hcc,hpo,hpc⟩:=hs;have HL:=Lib.hid hsl;have HMC:=Lib.hid hmc;have HSM:=Lib.hid hsm;clear hsl hmc hsm HLX;have hi0: (0:Int)≤i:=by omega
   obtain ⟨x2,f2⟩:=HL.out.x.c2;obtain ⟨wv,hwv⟩:∃b,rr.wrong=b:=⟨_,rfl⟩;rw [hwv] at x2;have HW:=Lib.hid hwv;clear hwv;by_cases hz:i=0
   · subst hz;have HZ:Hid (∃hs,SL W rb mb lb sb ob h m ⟨g,C,[],0,0,0⟩ hs rC wr):=Lib.hid (by
      have h9:=HMC.out;rw [many_stop _ _ _ _ (.inl rfl)] at h9;injection h9 with e1 e2
      subst e1 e2;exact ⟨_,HL.out⟩)
     have HZ2:Hid (ChSm C 0):=Lib.hid (by
      have h9:=HMC.out;rw [many_stop _ _ _ _ (.inl rfl)] at h9;injection h9 with e1 e2
      subst e1;exact HSM.out)
     have d0:decide ((0:Int) < ((0:Nat):Int))=false:=by decide
     go_wp2_with fail;go_meet;case rel=>exact ⟨HZ,HZ2⟩
   · have d0:decide ((0:Int) < (i:Int))=true:=decide_eq_true (by omega);cases wv;rotate_left
     · have HZ:Hid (∃hs,SL W rb mb lb sb ob h m ⟨g,C,[],0,0,0⟩ hs rC wr):=Lib.hid (by
        have h9:=HMC.out;rw [many_stop _ _ _ _ (.inr HW.out)] at h9;injection h9 with e1 e2
        subst e1 e2;exact ⟨_,HL.out⟩)
       have HZ2:Hid (ChSm C 0):=Lib.hid (by
        have h9:=HMC.out;rw [many_stop _ _ _ _ (.inr HW.out)] at h9;injection h9 with e1 e2
        subst e1;exact ⟨by have:=HSM.out.1;omega,HSM.out.2⟩)
       go_wp2_with fail;go_meet;case rel=>exact ⟨HZ,HZ2⟩
     · obtain ⟨j,rfl⟩:∃j,i=j+1:=⟨i - 1,by omega⟩;have HSP:=Lib.hid (ch_small HFS.out rr);have HCH:=Lib.hid (channelC wr.drew (HL.out.x.below (Below.refl _ _).drew) (HL.out.m.below HL.out.x.lt (Below.refl _ _).drew) HFS.out);obtain ⟨x,hxe⟩:∃x,(chF m rr).1=x:=⟨_,rfl⟩;obtain ⟨rx,hrx⟩:∃x,(chF m rr).2=x:=⟨_,rfl⟩;have HMN:Hid (manyF (chF m) j (cs ++ [x]) rx= (C,rC)):=Lib.hid (by rw [←hxe,←hrx,←many_go _ _ _ _ HW.out];exact HMC.out);have HXE:Hid (chF m rr= (x,rx)):=Lib.hid (by rw [←hxe,←hrx]);rw [hxe] at HSP;rw [HXE.out] at HCH;have hcl33:cs.length≤33:=by have:=HSM.out.1;omega
       have y1:wr.cell? ⟨sb,1,none⟩=some (.slice hco cs.length hcc):=HL.out.cell rfl;have HFZ:Hid (wr.frozen? ⟨sb,1,none⟩=false):=Lib.hid (frozen_of_row _ _ _ _ _ HL.out.s);clear hxe hrx hz;go_upto_region 5 with fail
       clear x2 f2;have z1:∀W',wr.grownBy W' (some rb)→W'.cell? ⟨sb,1,none⟩=some (.slice hco cs.length hcc):=fun W' hg=>(cell_of_row _ _ 1 _ _ _ (gb_heap hg HL.out.s (by have:=HL.out.rl;have:=HL.out.sl;omega))).trans rfl
       have z2:∀W',wr.grownBy W' (some rb)→W'.frozen? ⟨sb,1,none⟩=false:=fun W' hg=>frozen_of_row _ _ _ _ _ (gb_heap hg HL.out.s (by have:=HL.out.rl;have:=HL.out.sl;omega))
       have hR:wr.grownBy wr (some rb):=gb_refl _ _;have hD:wr.grownBy wr.drew (some rb):=gbD (gb_refl _ _);have hAD:∀W',wr.grownBy W' (some rb)→wr.grownBy W'.drew (some rb):=fun W' hg=>gbD hg
       have hA:∀W' o,wr.grownBy W' (some rb)→wr.grownBy (W'.alloc o) (some rb):=fun W' o hg=>gbA hg o
       clear y1 HFZ
       go_region_law
        (first
          | (refine step_append_keep rfl _ _ 30 rfl W.heap.size 61 ic (.agg #[.int .i64 0,.slice none 0 0]) 2 32 Tryd.underlying30 HIC.out.1 HIC.out.2.1 HIC.out.2.2.1 HIC.out.2.2.2 rfl (by decide) (.slice hco cs.length hcc) cs.length xs rfl (HOQ.out.alloc _) ⟨W5.heap.size,0,none⟩ 1 1 [.int .i64 x.shape,.slice qo x.queue.length qc] rfl rfl (arr_at _ _ _ _ rfl) (by simp [Value.oneCell']) (by unfold maxLen;omega) (by omega) HLE.out ?_;intro co' cc' W6 hr6 hg6 hn6;have n6:W6.cell? ⟨sb,1,none⟩=some (.slice hco cs.length hcc):=(World.cell?_of_block (a:=⟨sb,1,none⟩) (hg6.block _ HNE.out.1 HNE.out.2)).trans (z1 _ (hA _ _ hgB));have f6:W6.frozen? ⟨sb,1,none⟩=false:=(World.frozen?_of_block (a:=⟨sb,1,none⟩) (hg6.block _ HNE.out.1 HNE.out.2)).trans (z2 _ (hA _ _ hgB)))
          | (go_simp;go_at_call 36;refine HCH.out.mono ?_;rintro e W5 ⟨qo,qc,rfl,hqr,hx5,hg5⟩;have hgB:wr.grownBy W5 (some rb):=gb_trans hD hg5;have HK5:=Lib.hid ((HL.out.below (Below.refl _ _).drew).read hx5 hg5);have HQR:=Lib.hid (hqr.mono (B':=W.heap.size) HL.out.g.size);obtain ⟨xs,hoq,hqm⟩:=HK5.out.cr;have HOQ:=Lib.hid hoq;have HQM:=Lib.hid hqm;have HLE:Hid (W.heap.size≤ (W5.alloc (.cells #[.int .i64 x.shape,.slice qo x.queue.length qc] 61)).heap.size):=Lib.hid (by have:=HK5.out.g.size;simp;omega);have HNE:Hid (sb < (W5.alloc (.cells #[.int .i64 x.shape,.slice qo x.queue.length qc] 61)).heap.size∧some sb≠ (Value.slice hco cs.length hcc).ownBlock):=Lib.hid ⟨by have:=lt_of_block HK5.out.s;simp;omega,fun e=>owns_neObj HOQ.out HK5.out.s (by simp) e.symm⟩;clear hqr hx5 hg5 hoq hqm))
       all_goals (
        have HZ:Hid (∃hs cs' rr,SL W rb mb lb sb ob h m ⟨g,cs',[],0,0,0⟩ hs rr (W6.setCell ⟨sb,1,none⟩ (.slice co' (cs.length+1) cc'))∧manyF (chF m) j cs' rr= (C,rC)∧ChSm cs' j):=Lib.hid (by
         have h9:=SL.cstep (x:=x) HK5.out HOQ.out HQM.out HQR.out hg6 hr6;refine ⟨_,_,_,h9,HMN.out,by have:=HSM.out.1;simp;omega,fun c hc=> ?_⟩;rcases List.mem_append.1 hc with hc | hc
         · exact HSM.out.2 c hc
         · rw [List.mem_singleton] at hc;subst hc;exact HSP.out)
        clear n6 f6 hr6 hg6 hn6 hgB HK5 HQR HOQ HQM HLE HNE z1 z2 hR hD hAD hA HL HMC HSM
        try simp only [Exit.inBlock,Exit.then]
        go_wp2_with fail;go_roundw;case rel=>exact ⟨j,by go_num,by omega,HZ⟩
        case measure=>simp [intOf] <;> omega)
 case rest=>
 obtain ⟨HLX,HCS⟩:=hcut;clear HL4 HMC HC0 HIC HR2;obtain ⟨hs1,hl1⟩:=HLX.out;have HL1:=Lib.hid hl1;clear hl1 HLX;have HBL:=Lib.hid (belowC 17 HL1.out.x);have HR3:=Lib.hid (be_lt (most:=17) (by omega) rC);obtain ⟨pn,hpn⟩:∃v,(beF 17 rC).1=v:=⟨_,rfl⟩;obtain ⟨r3,hr3⟩:∃v,(beF 17 rC).2=v:=⟨_,rfl⟩;rw [hpn] at HR3;rw [hpn,hr3] at HBL;obtain ⟨q,rfl⟩:∃k:Nat,pn=k:=⟨pn.toNat,by have:=HR3.out;omega⟩;obtain ⟨P,hP⟩:∃C,(manyF (prF m) q [] r3).1=C:=⟨_,rfl⟩;obtain ⟨rP,hrP⟩:∃C,(manyF (prF m) q [] r3).2=C:=⟨_,rfl⟩;have HE3:Hid (psF m rC= (P,rP)):=Lib.hid (by unfold psF;rw [hpn,hr3,Int.toNat_natCast,←hP,←hrP]);have HMP:Hid (manyF (prF m) q [] r3= (P,rP)):=Lib.hid (by rw [←hP,←hrP]);clear hpn hr3 hP hrP;go_upto_block 2 with (refine HBL.out.mono ?_;rintro e W4 ⟨rfl,hx4,hg4⟩;have HL4:=Lib.hid (HL1.out.read hx4 hg4);clear hx4 hg4)
 clear HBL HL1;have hq17: (q:Int) < 17:=HR3.out.2;have HP1:Hid (PrSm [] q):=Lib.hid ⟨by simp;omega,fun c hc=>by cases hc⟩;obtain ⟨jp,hi1,hi2,hi3,hi4⟩:=info_parts info_procs;have HIP:=Lib.hid (And.intro hi1 (And.intro hi2 (And.intro hi3 hi4)));clear hi1 hi2 hi3 hi4
 go_cut [5] from 39 (fun v W'=>Hid (∃hs,SL W rb mb lb sb ob h m ⟨g,C,P,0,0,0⟩ hs rP W')∧Hid (PrSm P 0))
 case first=>
  go_wp2_with fail
  go_loopw [5] (fun iv W'=>∃i:Nat,iv= .int .i64 i∧i < 17∧Hid (∃hs ps rr,SL W rb mb lb sb ob h m ⟨g,C,ps,0,0,0⟩ hs rr W'∧manyF (prF m) i ps rr= (P,rP)∧PrSm ps i)) (fun iv _=>(intOf iv).toNat)
  case atStart=>exact ⟨q,rfl,by omega,Lib.hid ⟨_,_,_,HL4.out,HMP.out,HP1.out⟩⟩
  case round=>
   clear HL4 HMP HP1;obtain ⟨i,rfl,hi,HLX⟩:=hrel;obtain ⟨hs,cs,rr,hsl,hmc,hsm⟩:=HLX.out;obtain ⟨hgo,hgc,hco,hcc,hpo,hpc⟩:=hs;have HL:=Lib.hid hsl;have HMC:=Lib.hid hmc;have HSM:=Lib.hid hsm;clear hsl hmc hsm HLX;have hi0: (0:Int)≤i:=by omega
   obtain ⟨x2,f2⟩:=HL.out.x.c2;obtain ⟨wv,hwv⟩:∃b,rr.wrong=b:=⟨_,rfl⟩;rw [hwv] at x2;have HW:=Lib.hid hwv;clear hwv;by_cases hz:i=0
   · subst hz;have HZ:Hid (∃hs,SL W rb mb lb sb ob h m ⟨g,C,P,0,0,0⟩ hs rP wr):=Lib.hid (by
      have h9:=HMC.out;rw [many_stop _ _ _ _ (.inl rfl)] at h9;injection h9 with e1 e2
      subst e1 e2;exact ⟨_,HL.out⟩)
     have HZ2:Hid (PrSm P 0):=Lib.hid (by
      have h9:=HMC.out;rw [many_stop _ _ _ _ (.inl rfl)] at h9;injection h9 with e1 e2
      subst e1;exact HSM.out)
     have d0:decide ((0:Int) < ((0:Nat):Int))=false:=by decide
     go_wp2_with fail;go_meet;case rel=>exact ⟨HZ,HZ2⟩
   · have d0:decide ((0:Int) < (i:Int))=true:=decide_eq_true (by omega);cases wv;rotate_left
     · have HZ:Hid (∃hs,SL W rb mb lb sb ob h m ⟨g,C,P,0,0,0⟩ hs rP wr):=Lib.hid (by
        have h9:=HMC.out;rw [many_stop _ _ _ _ (.inr HW.out)] at h9;injection h9 with e1 e2
        subst e1 e2;exact ⟨_,HL.out⟩)
       have HZ2:Hid (PrSm P 0):=Lib.hid (by
        have h9:=HMC.out;rw [many_stop _ _ _ _ (.inr HW.out)] at h9;injection h9 with e1 e2
        subst e1;exact ⟨by have:=HSM.out.1;omega,HSM.out.2⟩)
       go_wp2_with fail;go_meet;case rel=>exact ⟨HZ,HZ2⟩
     · obtain ⟨j,rfl⟩:∃j,i=j+1:=⟨i - 1,by omega⟩;have HSP:=Lib.hid (pr_small HFP.out rr);have HCH:=Lib.hid (processC wr.drew (HL.out.x.below (Below.refl _ _).drew) (HL.out.m.below HL.out.x.lt (Below.refl _ _).drew) HP0.out HFP.out);obtain ⟨x,hxe⟩:∃x,(prF m rr).1=x:=⟨_,rfl⟩;obtain ⟨rx,hrx⟩:∃x,(prF m rr).2=x:=⟨_,rfl⟩;have HMN:Hid (manyF (prF m) j (cs ++ [x]) rx= (P,rP)):=Lib.hid (by rw [←hxe,←hrx,←many_go _ _ _ _ HW.out];exact HMC.out);have HXE:Hid (prF m rr= (x,rx)):=Lib.hid (by rw [←hxe,←hrx]);rw [hxe] at HSP;rw [HXE.out] at HCH;have hcl33:cs.length≤17:=by have:=HSM.out.1;omega
       have y1:wr.cell? ⟨sb,2,none⟩=some (.slice hpo cs.length hpc):=HL.out.cell rfl;clear hxe hrx hz;go_upto_region 9 with fail
       clear x2 f2;have z1:∀W',wr.grownBy W' (some rb)→W'.cell? ⟨sb,2,none⟩=some (.slice hpo cs.length hpc):=fun W' hg=>(cell_of_row _ _ 2 _ _ _ (gb_heap hg HL.out.s (by have:=HL.out.rl;have:=HL.out.sl;omega))).trans rfl
       have z2:∀W',wr.grownBy W' (some rb)→W'.frozen? ⟨sb,2,none⟩=false:=fun W' hg=>frozen_of_row _ _ _ _ _ (gb_heap hg HL.out.s (by have:=HL.out.rl;have:=HL.out.sl;omega))
       have hR:wr.grownBy wr (some rb):=gb_refl _ _;have hD:wr.grownBy wr.drew (some rb):=gbD (gb_refl _ _);have hAD:∀W',wr.grownBy W' (some rb)→wr.grownBy W'.drew (some rb):=fun W' hg=>gbD hg
       have hA:∀W' o,wr.grownBy W' (some rb)→wr.grownBy (W'.alloc o) (some rb):=fun W' o hg=>gbA hg o
       clear y1
       go_region_law
        (first
          | (refine step_append_keep rfl _ _ 31 rfl W.heap.size 63 jp (.agg #[.int .i64 0,.int .i64 0,.int .i64 0,.slice none 0 0]) 4 48 Tryd.underlying31 HIP.out.1 HIP.out.2.1 HIP.out.2.2.1 HIP.out.2.2.2 rfl (by decide) (.slice hpo cs.length hpc) cs.length xs rfl (HOQ.out.alloc _) ⟨W5.heap.size,0,none⟩ 1 1 [.int .i64 x.type,.int .i64 x.loc,.int .i64 x.prio,.slice qo x.frame.length qc] rfl rfl (arr_at _ _ _ _ rfl) (by simp [Value.oneCell']) (by unfold maxLen;omega) (by omega) HLE.out ?_;intro po' pc' W6 hr6 hg6 hn6;have n6:W6.cell? ⟨sb,2,none⟩=some (.slice hpo cs.length hpc):=(World.cell?_of_block (a:=⟨sb,2,none⟩) (hg6.block _ HNE.out.1 HNE.out.2)).trans (z1 _ (hA _ _ hgB));have f6:W6.frozen? ⟨sb,2,none⟩=false:=(World.frozen?_of_block (a:=⟨sb,2,none⟩) (hg6.block _ HNE.out.1 HNE.out.2)).trans (z2 _ (hA _ _ hgB)))
          | (go_simp;go_at_call 37;refine HCH.out.mono ?_;rintro e W5 ⟨qo,qc,rfl,hqr,hx5,hg5⟩;have hgB:wr.grownBy W5 (some rb):=gb_trans hD hg5;have HK5:=Lib.hid ((HL.out.below (Below.refl _ _).drew).read hx5 hg5);have HQR:Hid (W5.ownsRow W.heap.size 2 1 (.slice qo x.frame.length qc) x.frame.length (intsV x.frame)):=Lib.hid (Joins.ownsRow_le hqr HL.out.g.size);obtain ⟨xs,hoq,hqm⟩:=HK5.out.pr;have HOQ:=Lib.hid hoq;have HQM:=Lib.hid hqm;have HLE:Hid (W.heap.size≤ (W5.alloc (.cells #[.int .i64 x.type,.int .i64 x.loc,.int .i64 x.prio,.slice qo x.frame.length qc] 63)).heap.size):=Lib.hid (by have:=HK5.out.g.size;simp;omega);have HNE:Hid (sb < (W5.alloc (.cells #[.int .i64 x.type,.int .i64 x.loc,.int .i64 x.prio,.slice qo x.frame.length qc] 63)).heap.size∧some sb≠ (Value.slice hpo cs.length hpc).ownBlock):=Lib.hid ⟨by have:=lt_of_block HK5.out.s;simp;omega,fun e=>owns_neObj HOQ.out HK5.out.s (by simp) e.symm⟩;clear hqr hx5 hg5 hoq hqm))
       all_goals (
        have HZ:Hid (∃hs cs' rr,SL W rb mb lb sb ob h m ⟨g,C,cs',0,0,0⟩ hs rr (W6.setCell ⟨sb,2,none⟩ (.slice po' (cs.length+1) pc'))∧manyF (prF m) j cs' rr= (P,rP)∧PrSm cs' j):=Lib.hid (by
         have h9:=SL.pstep (x:=x) HK5.out HOQ.out HQM.out HQR.out hg6 hr6;refine ⟨_,_,_,h9,HMN.out,by have:=HSM.out.1;simp;omega,fun c hc=> ?_⟩;rcases List.mem_append.1 hc with hc | hc
         · exact HSM.out.2 c hc
         · rw [List.mem_singleton] at hc;subst hc;exact HSP.out)
        clear n6 f6 hr6 hg6 hn6 hgB HK5 HQR HOQ HQM HLE HNE z1 z2 hR hD hAD hA HL HMC HSM
        try simp only [Exit.inBlock,Exit.then]
        go_wp2_with fail;go_roundw;case rel=>exact ⟨j,by go_num,by omega,HZ⟩
        case measure=>simp [intOf] <;> omega)
 case rest=>
 obtain ⟨HLX,HPS⟩:=hcut;clear HL4 HMP HP1 HIP HR3;obtain ⟨hs1,hl1⟩:=HLX.out;have HL1:=Lib.hid hl1;clear hl1 HLX;obtain ⟨hgo,hgc,hco,hcc,hpo,hpc⟩:=hs1;obtain ⟨v1,hv1⟩:∃v,(nxF rP).1=v:=⟨_,rfl⟩;obtain ⟨q1,hq1⟩:∃v,(nxF rP).2=v:=⟨_,rfl⟩;obtain ⟨v2,hv2⟩:∃v,(nxF q1).1=v:=⟨_,rfl⟩;obtain ⟨q2,hq2⟩:∃v,(nxF q1).2=v:=⟨_,rfl⟩;obtain ⟨v3,hv3⟩:∃v,(nxF q2).1=v:=⟨_,rfl⟩;obtain ⟨q3,hq3⟩:∃v,(nxF q2).2=v:=⟨_,rfl⟩;have HST:Hid (stF m r= (⟨g,C,P,v1,v2,v3⟩,q3)):=Lib.hid (by
  unfold stF;rw [HE1.out];simp only;rw [HE2.out];simp only;rw [HE3.out];simp only [enF];rw [hv1,hq1,hv2,hq2,hv3,hq3])
 have HN1:=Lib.hid (nextC HL1.out.x);rw [hv1,hq1] at HN1;have HV2:=Lib.hid hv2;have HQ2:=Lib.hid hq2;have HV3:=Lib.hid hv3;have HQ3:=Lib.hid hq3;clear hv1 hq1 hv2 hq2 hv3 hq3;go_wp2_with fail;refine HN1.out.mono ?_;rintro e W5 ⟨rfl,hx5,hg5⟩;have HL5:=Lib.hid (HL1.out.read hx5 hg5);have n3:W5.cell? ⟨sb,3,none⟩=some (.int .i64 0):=HL5.out.cell rfl;have f3:W5.frozen? ⟨sb,3,none⟩=false:=frozen_of_row _ _ _ _ _ HL5.out.s;clear hx5 hg5;go_upto_region 11 with fail
 have HL6:Hid (SL W rb mb lb sb ob h m ⟨g,C,P,v1,0,0⟩ ⟨hgo,hgc,hco,hcc,hpo,hpc⟩ q1 (W5.setCell ⟨sb,3,none⟩ (.int .i64 v1))):=Lib.hid (HL5.out.sset 3 (.int .i64 v1) rfl rfl rfl rfl rfl);clear n3 f3 HL5 HL1 HN1;generalize W5.setCell ⟨sb,3,none⟩ (.int .i64 v1)=W6 at HL6 ⊢;have HN2:=Lib.hid (nextC HL6.out.x);rw [HV2.out,HQ2.out] at HN2;go_wp2_with fail;refine HN2.out.mono ?_;rintro e W7 ⟨rfl,hx5,hg5⟩;have HL7:=Lib.hid (HL6.out.read hx5 hg5);have n3:W7.cell? ⟨sb,4,none⟩=some (.int .i64 0):=HL7.out.cell rfl;have f3:W7.frozen? ⟨sb,4,none⟩=false:=frozen_of_row _ _ _ _ _ HL7.out.s;clear hx5 hg5;go_upto_region 12 with fail
 have HL8:Hid (SL W rb mb lb sb ob h m ⟨g,C,P,v1,v2,0⟩ ⟨hgo,hgc,hco,hcc,hpo,hpc⟩ q2 (W7.setCell ⟨sb,4,none⟩ (.int .i64 v2))):=Lib.hid (HL7.out.sset 4 (.int .i64 v2) rfl rfl rfl rfl rfl);clear n3 f3 HL7 HL6 HN2;generalize W7.setCell ⟨sb,4,none⟩ (.int .i64 v2)=W8 at HL8 ⊢;have HN3:=Lib.hid (nextC HL8.out.x);rw [HV3.out,HQ3.out] at HN3;go_wp2_with fail;refine HN3.out.mono ?_;rintro e W9 ⟨rfl,hx5,hg5⟩;have HL9:=Lib.hid (HL8.out.read hx5 hg5);have n3:W9.cell? ⟨sb,5,none⟩=some (.int .i64 0):=HL9.out.cell rfl;have f3:W9.frozen? ⟨sb,5,none⟩=false:=frozen_of_row _ _ _ _ _ HL9.out.s;clear hx5 hg5;go_upto_region 13 with fail
 have HLA:Hid (SL W rb mb lb sb ob h m ⟨g,C,P,v1,v2,v3⟩ ⟨hgo,hgc,hco,hcc,hpo,hpc⟩ q3 (W9.setCell ⟨sb,5,none⟩ (.int .i64 v3))):=Lib.hid (HL9.out.sset 5 (.int .i64 v3) rfl rfl rfl rfl rfl);clear n3 f3 HL9 HL8 HN3;generalize W9.setCell ⟨sb,5,none⟩ (.int .i64 v3)=WA at HLA ⊢;have y0:WA.cell? ⟨sb,0,none⟩=some (.slice hgo g.length hgc):=HLA.out.cell rfl;have y1:WA.cell? ⟨sb,1,none⟩=some (.slice hco C.length hcc):=HLA.out.cell rfl;have y2:WA.cell? ⟨sb,2,none⟩=some (.slice hpo P.length hpc):=HLA.out.cell rfl;have y3:WA.cell? ⟨sb,3,none⟩=some (.int .i64 v1):=HLA.out.cell rfl;have y4:WA.cell? ⟨sb,4,none⟩=some (.int .i64 v2):=HLA.out.cell rfl;have y5:WA.cell? ⟨sb,5,none⟩=some (.int .i64 v3):=HLA.out.cell rfl;have z0:WA.cell? ⟨ob,0,none⟩=some (.slice none 0 0):=(cell_of_row _ _ 0 _ _ _ HLA.out.o).trans rfl;have z1:WA.cell? ⟨ob,1,none⟩=some (.slice none 0 0):=(cell_of_row _ _ 1 _ _ _ HLA.out.o).trans rfl;have z2:WA.cell? ⟨ob,2,none⟩=some (.slice none 0 0):=(cell_of_row _ _ 2 _ _ _ HLA.out.o).trans rfl;have z3:WA.cell? ⟨ob,3,none⟩=some (.int .i64 0):=(cell_of_row _ _ 3 _ _ _ HLA.out.o).trans rfl;have z4:WA.cell? ⟨ob,4,none⟩=some (.int .i64 0):=(cell_of_row _ _ 4 _ _ _ HLA.out.o).trans rfl;have z5:WA.cell? ⟨ob,5,none⟩=some (.int .i64 0):=(cell_of_row _ _ 5 _ _ _ HLA.out.o).trans rfl;have g0:=frozen_of_row _ _ 0 _ _ HLA.out.o;have g1:=frozen_of_row _ _ 1 _ _ HLA.out.o;have g2:=frozen_of_row _ _ 2 _ _ HLA.out.o;have g3:=frozen_of_row _ _ 3 _ _ HLA.out.o;have g4:=frozen_of_row _ _ 4 _ _ HLA.out.o;have g5:=frozen_of_row _ _ 5 _ _ HLA.out.o;have HZ:Hid (StP rb mb lb (stF m r) W (.returned (sV ⟨hgo,hgc,hco,hcc,hpo,hpc⟩ ⟨g,C,P,v1,v2,v3⟩)) ((((((WA.setCell ⟨ob,0,none⟩ (.slice hgo g.length hgc)).setCell ⟨ob,1,none⟩ (.slice hco C.length hcc)).setCell ⟨ob,2,none⟩ (.slice hpo P.length hpc)).setCell ⟨ob,3,none⟩ (.int .i64 v1)).setCell ⟨ob,4,none⟩ (.int .i64 v2)).setCell ⟨ob,5,none⟩ (.int .i64 v3))):=Lib.hid (by
  rw [HST.out];have key:∀ (W':World) (cs:Array Value) (i:Nat) (v:Value),(∃hs:SH,hs= ⟨hgo,hgc,hco,hcc,hpo,hpc⟩∧W'.ownsRow W.heap.size 2 1 (.slice hgo g.length hgc) g.length (intsV g)∧CR W.heap.size W' hco hcc C∧PRr W.heap.size W' hpo hpc P∧W'.heap[ob]? =some (.cells cs 33 (0,0))∧RX rb mb lb q3 W'∧W.grownBy W' (some rb))→
   (∃hs:SH,hs= ⟨hgo,hgc,hco,hcc,hpo,hpc⟩∧ (W'.setCell ⟨ob,i,none⟩ v).ownsRow W.heap.size 2 1 (.slice hgo g.length hgc) g.length (intsV g)∧CR W.heap.size (W'.setCell ⟨ob,i,none⟩ v) hco hcc C∧PRr W.heap.size (W'.setCell ⟨ob,i,none⟩ v) hpo hpc P∧ (W'.setCell ⟨ob,i,none⟩ v).heap[ob]? =some (.cells (cs.setIfInBounds i v) 33 (0,0))∧RX rb mb lb q3 (W'.setCell ⟨ob,i,none⟩ v)∧W.grownBy (W'.setCell ⟨ob,i,none⟩ v) (some rb)):=by
   rintro W' cs i v ⟨hs,e,a1,a2,a3,a4,a5,a6⟩;have hg:=gb_set W' ob i v;have hol:=HLA.out.ol;have hrl:=HLA.out.rl;exact ⟨hs,e,owns_set a1 _ _ (owns_neObj a1 a4 (by simp)),a2.set a4 i v,a3.set a4 i v,heap_setCell_same _ _ _ _ _ _ a4,a5.other hg (by omega),gb_mono a6 hg hol⟩
  obtain ⟨hs,-,b1,b2,b3,b4,b5,b6⟩:=key _ _ 5 (.int .i64 v3) (key _ _ 4 (.int .i64 v2) (key _ _ 3 (.int .i64 v1) (key _ _ 2 (.slice hpo P.length hpc) (key _ _ 1 (.slice hco C.length hcc) (key _ _ 0 (.slice hgo g.length hgc) ⟨_,rfl,HLA.out.gr,HLA.out.cr,HLA.out.pr,HLA.out.o,HLA.out.x,HLA.out.g⟩)))));refine ⟨⟨hgo,hgc,hco,hcc,hpo,hpc⟩,rfl,⟨b1,b2,b3, ?_⟩,b5,b6⟩;have hc:=HCS.out;have hp:=HPS.out;refine ⟨by have:=HGL.out;simp only;omega,by have:=hc.1;simp only;omega,by have:=hp.1;simp only;omega,fun x hx=> ?_,fun x hx=> ?_⟩
  · obtain ⟨d1,d2⟩:=hc.2 x hx;exact ⟨by omega,fun y hy=>by have:=d2 y hy;omega⟩
  · have:=hp.2 x hx;omega)
 go_wp2_with fail;refine bodyPost_ret (v:= .agg #[.slice hgo g.length hgc,.slice hco C.length hcc,.slice hpo P.length hpc,.int .i64 v1,.int .i64 v2,.int .i64 v3]) (by simp [results,Tryd.results15,go_sem,z0,z1,z2,z3,z4,z5,y0,y1,y2,y3,y4,y5,g0,g1,g2,g3,g4,g5]) rfl ?_;exact HZ.out
end Go.Proofs.YtnoibjahliafpaaDoor
