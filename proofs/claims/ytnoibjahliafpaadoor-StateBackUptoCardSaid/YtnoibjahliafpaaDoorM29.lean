/- A model's first state, as the program makes it. -/
import Derived.Test.YtnoibjahliafpaaDoorM25
import Derived.Test.YtnoibjahliafpaaDoorM22
set_option linter.unusedVariables false
set_option linter.unusedSimpArgs false
namespace Go.Proofs.YtnoibjahliafpaaDoor
open Go.ChangeShapes Go.WideShapes Go.ChangeAt Go.RowKit
def FirstP (w:World) (m:ModelD) (e:Ending) (w':World):Prop:=
 (goodB m=false→e= .returned (.tuple #[sV ⟨none,0,none,0,none,0⟩ ⟨[],[],[],0,0,0⟩,.int .i64 40])∧Below w.heap.size w w')∧
 (goodB m=true→∃hs,e= .returned (.tuple #[sV hs (firstD m),.int .i64 0])∧SO w.heap.size w' hs (firstD m)∧Below w.heap.size w w')
theorem good_chans {m:ModelD} (h:goodB m=true):m.chans.length≤32∧m.globals.length≤128∧m.init.length=m.globals.length∧activeS m≤16:=by
 unfold goodB checkL at h;rw [decide_eq_true_eq] at h;by_cases h1: (globalsL m).2=false
 · rw [if_pos h1] at h;simp at h
 rw [if_neg h1] at h;by_cases h2: (channelsL m).2=false
 · rw [if_pos h2] at h;simp at h
 rw [if_neg h2] at h;by_cases h3: (expressionsL m).2=false
 · rw [if_pos h3] at h;simp at h
 rw [if_neg h3] at h;by_cases h4: (procsL m).2=false
 · rw [if_pos h4] at h;simp at h
 rw [if_neg h4] at h;by_cases h5: (activeL m).2=false
 · rw [if_pos h5] at h;simp at h
 have h6:activeS m≤16:=by
  unfold activeL at h5;simpa using h5
 have h7:m.chans.length≤32:=by
  unfold channelsL at h2;split at h2
  · simp at h2
  · omega
 unfold globalsL at h1;split at h1
 · simp at h1
 · exact ⟨h7,by omega,by omega,h6⟩
theorem good_claim {m:ModelD} (h:goodB m=true): -1≤m.claim∧m.claim < m.procs.length:=by
 unfold goodB checkL at h;rw [decide_eq_true_eq] at h;by_cases h1: (globalsL m).2=false
 · rw [if_pos h1] at h;simp at h
 rw [if_neg h1] at h;by_cases h2: (channelsL m).2=false
 · rw [if_pos h2] at h;simp at h
 rw [if_neg h2] at h;by_cases h3: (expressionsL m).2=false
 · rw [if_pos h3] at h;simp at h
 clear h;unfold expressionsL at h3;by_cases h4:exprsHead m=true
 · rw [if_pos h4] at h3;simp at h3
 · unfold exprsHead at h4;rw [decide_eq_true_eq] at h4;omega
theorem six_own {W:World} {B b:Nat} {R:Nat × Nat × Nat→RowS} (h:Own B W R) (hne:∀k,(R k).v.ownBlock≠some b) (v0 v1 v2 v3 v4 v5:Value):
 Own B ((((((W.setCell ⟨b,0,none⟩ v0).setCell ⟨b,1,none⟩ v1).setCell ⟨b,2,none⟩ v2).setCell ⟨b,3,none⟩ v3).setCell ⟨b,4,none⟩ v4).setCell ⟨b,5,none⟩ v5) R:=
 (((((h.other _ _ hne).other _ _ hne).other _ _ hne).other _ _ hne).other _ _ hne).other _ _ hne
theorem starts_len:∀ (l:List ProcD) (t:Nat),(∀p ∈ l,0≤p.active)→ ((startsL t l).length:Int)= (l.map (·.active)).sum
 | [],t,_=>by simp [startsL]
 | p :: r,t,h=>by
   have h1:=starts_len r (t+1) (fun q hq=>h q (List.mem_cons_of_mem _ hq));have h2:=h p List.mem_cons_self;simp only [startsL,startsOf,List.length_append,List.length_replicate,List.map_cons,List.sum_cons];omega
theorem procs_small {m:ModelD} (h:goodB m=true): (firstD m).procs.length≤16:=by
 have h1:=starts_len m.procs 0 (fun p hp=>by
  obtain ⟨t,ht⟩:=List.mem_iff_getElem?.1 hp;exact (good_gp h ht).act.1)
 have h2:=(good_chans h).2.2.2;unfold activeS at h2;unfold firstD;simp only;omega
theorem six_below {w W:World} {b:Nat} (h:Below w.heap.size w W) (hb:w.heap.size≤b) (v0 v1 v2 v3 v4 v5:Value):
 Below w.heap.size w ((((((W.setCell ⟨b,0,none⟩ v0).setCell ⟨b,1,none⟩ v1).setCell ⟨b,2,none⟩ v2).setCell ⟨b,3,none⟩ v3).setCell ⟨b,4,none⟩ v4).setCell ⟨b,5,none⟩ v5):=
 (((((h.setCell hb _).setCell hb _).setCell hb _).setCell hb _).setCell hb _).setCell hb _
theorem arr_at (W:World) (cs:Array Value) (T:TypeId) (l:List Value) (h:l=cs.toList):∀j u,l[j]? =some u→ (W.alloc (.cells cs T)).cell? ((⟨W.heap.size,0,none⟩:Addr).add j)=some u:=by
 intro j u hj;subst h;rw [held.add_off,cell_of_row _ _ _ _ _ _ (heap_alloc_new W _)];simpa using hj
set_option maxHeartbeats 4000000 in
set_option maxRecDepth 100000 in
theorem firstC {B:Nat} {h:MH} {m:ModelD} (w:World) (hB:B≤w.heap.size) (hm:MD B w h m):
 Calls Tryd.prog 8 #[mV h m] w (FirstP w m):=by
 obtain ⟨CM,hCM⟩:∃c,c=mCells h m:=⟨_,rfl⟩;have hmw:MD w.heap.size w h m:=hm.lift hB;have HMX:Hid (Mx w w.heap.size CM h m (w.alloc (.cells CM 29))):=Lib.hid (Mx.new hmw hCM);have HCM:=Lib.hid hCM;have HIG:Hid (∀W,w.heap.size≤W.heap.size→MD w.heap.size W h m→Calls Tryd.prog 13 #[.agg CM] W fun e w'=>e= .returned (.bool (goodB m))∧Below W.heap.size W w'):=Lib.hid (by rw [hCM];exact fun W h1 h2=>isGoodC W h1 h2);unfold mV;rw [←hCM];clear hm hCM hB;go_enter Tryd.func8,Tryd.ntmps8;go_upto_region 1 with fail
 have HMX1:=Lib.hid (HMX.out.below (ball (.cells #[.slice none 0 0,.slice none 0 0,.slice none 0 0,.int .i64 0,.int .i64 0,.int .i64 0] 33)));have HR1:Hid (((w.alloc (.cells CM 29)).alloc (.cells #[.slice none 0 0,.slice none 0 0,.slice none 0 0,.int .i64 0,.int .i64 0,.int .i64 0] 33)).heap[w.heap.size+1]? =some (.cells #[.slice none 0 0,.slice none 0 0,.slice none 0 0,.int .i64 0,.int .i64 0,.int .i64 0] 33 (0,0))):=Lib.hid (at_new (by simp));clear HMX;generalize (w.alloc (.cells CM 29)).alloc (.cells #[.slice none 0 0,.slice none 0 0,.slice none 0 0,.int .i64 0,.int .i64 0,.int .i64 0] 33)=W1 at HMX1 HR1 ⊢;go_wp2_with (refine wpList_load_row rfl _ _ rfl _ rfl _ CM _ _ HMX1.out.bx.box Tryd.underlying29 rfl HMX1.out.info ?_);refine (HIG.out W1 HMX1.out.bx.bel.size HMX1.out.md).mono ?_;rintro e W2 ⟨rfl,hb2⟩;have HMX2:=Lib.hid (HMX1.out.below hb2);have HR2:Hid (W2.heap[w.heap.size+1]? =some (.cells #[.slice none 0 0,.slice none 0 0,.slice none 0 0,.int .i64 0,.int .i64 0,.int .i64 0] 33 (0,0))):=Lib.hid ((hb2.block _ (lt_of_block HR1.out)).trans HR1.out);clear HMX1 HR1 hb2;obtain ⟨gd,hgd⟩:∃b,goodB m=b:=⟨_,rfl⟩;have HGD:=Lib.hid hgd;rw [hgd];clear hgd;cases gd
 · have q0:=(cell_of_row _ _ 0 _ _ _ HR2.out).trans rfl;have q1:=(cell_of_row _ _ 1 _ _ _ HR2.out).trans rfl;have q2:=(cell_of_row _ _ 2 _ _ _ HR2.out).trans rfl;have q3:=(cell_of_row _ _ 3 _ _ _ HR2.out).trans rfl;have q4:=(cell_of_row _ _ 4 _ _ _ HR2.out).trans rfl;have q5:=(cell_of_row _ _ 5 _ _ _ HR2.out).trans rfl;have t0:=frozen_of_row _ _ 0 _ _ HR2.out;have t1:=frozen_of_row _ _ 1 _ _ HR2.out;have t2:=frozen_of_row _ _ 2 _ _ HR2.out;have t3:=frozen_of_row _ _ 3 _ _ HR2.out;have t4:=frozen_of_row _ _ 4 _ _ HR2.out;have t5:=frozen_of_row _ _ 5 _ _ HR2.out;have HEN:=Lib.hid (six_below (b:=w.heap.size+1) HMX2.out.bx.bel (by omega));go_wp2_with fail;refine bodyPost_ret (v:= .tuple #[sV ⟨none,0,none,0,none,0⟩ ⟨[],[],[],0,0,0⟩,.int .i64 40]) (by simp [sV,sCells,results,Tryd.results8,go_sem,q0,q1,q2,q3,q4,q5,t0,t1,t2,t3,t4,t5]) rfl ?_;exact ⟨fun _=>⟨rfl,HEN.out _ _ _ _ _ _⟩,fun h=>absurd h (by rw [HGD.out];simp)⟩
 · obtain ⟨hc32,hg128,hil,-⟩:=good_chans HGD.out;have HMW:Hid (∀W,Below w.heap.size w W→MD w.heap.size W h m):=Lib.hid fun W hb=>hmw.below hb
   obtain ⟨jc,hjc,jc0,jc1,jc2⟩:=info_parts info_chans;have HJC:=Lib.hid (And.intro hjc (And.intro jc0 (And.intro jc1 jc2)));have HC32:=Lib.hid hc32;have HIL:Hid (m.init.length*8≤140737488355328):=Lib.hid (by omega);have m1:=HMX2.out.c1;obtain ⟨oc,hoc⟩:∃o,h.co=o:=⟨_,rfl⟩;have HOC:=Lib.hid hoc;clear hc32 hg128 hil hjc jc0 jc1 jc2 hoc hmw;go_wp2_with fail;refine (clone_ints h.io m.init.length h.ic (intsV m.init) W2 (ints_len _) (ints_one _) (src_ints HMX2.out.here.init (Nat.le_refl _)) HIL.out).mono ?_;rintro e W3 ⟨go,gc,rfl,hown,hb3⟩;obtain ⟨sb,hsb⟩:∃b,W3.heap.size=b:=⟨_,rfl⟩;have HO:Hid (FO w sb CM (firstD m) 0 (upd firstR kG ⟨2,1,.slice go (firstD m).globals.length gc,(firstD m).globals.length,intsV (firstD m).globals⟩) go gc none 0 [] (W3.alloc (.cells #[.slice go m.init.length gc,.slice none 0 0,.slice none 0 0,.int .i64 0,.int .i64 (-1),.int .i64 (-1)] 33))):=Lib.hid (by
    have hbb:=hb3.trans ((ball (w:=W3) (.cells #[.slice go m.init.length gc,.slice none 0 0,.slice none 0 0,.int .i64 0,.int .i64 (-1),.int .i64 (-1)] 33)).mono hb3.size);refine FO.start ⟨?_,ty_upd (fun k=>(firstR_nil k).2.2.2) _ _ (by simp), ?_, ?_, ?_, ?_,HMX2.out.bx.bel.trans (hbb.mono HMX2.out.bx.bel.size)⟩
    · exact (firstR_own _ _).put (lt_of_block HR2.out) hbb kG _ (owns_below hown (ball _))
    · exact (hbb.block _ (lt_of_block HMX2.out.bx.box)).trans HMX2.out.bx.box
    · exact (hbb.block _ (lt_of_block HR2.out)).trans HR2.out
    · rw [←hsb];exact heap_alloc_new W3 _
    · have:=lt_of_block HR2.out;have:=hb3.size;omega)
   have m3: (W3.alloc (.cells #[.slice go m.init.length gc,.slice none 0 0,.slice none 0 0,.int .i64 0,.int .i64 (-1),.int .i64 (-1)] 33)).cell? ⟨w.heap.size,3,none⟩=some (.slice oc m.chans.length h.cc):=(cell_of_row _ _ 3 _ _ _ HO.out.c.box).trans (by rw [HCM.out,←HOC.out];rfl);clear hown hb3 m1 HMX2 HR2;go_upto_region 4 with fail
   clear hsb;generalize W3.alloc (.cells #[.slice go m.init.length gc,.slice none 0 0,.slice none 0 0,.int .i64 0,.int .i64 (-1),.int .i64 (-1)] 33)=W4 at HO m3 ⊢;go_wp2_with fail;clear m3
   go_loopw [20] (fun iv W=>∃i:Nat,iv= .int .i64 i∧i≤m.chans.length∧Hid (∃R co cc xs,FO w sb CM (firstD m) i R go gc co cc xs W)) (fun iv _=>m.chans.length - (intOf iv).toNat)
   case atStart=>exact ⟨0,rfl,by omega,Lib.hid ⟨_,_,_,_,HO.out⟩⟩
   case round=>
    clear HO;obtain ⟨i,rfl,hi,HOX⟩:=hrel;obtain ⟨R,co,cc,xs,hox⟩:=HOX.out;have HO:=Lib.hid hox;clear hox HOX;have hi0: (0:Int)≤i:=by omega
    by_cases hlt:i < m.chans.length
    · have hlti: (i:Int) < m.chans.length:=by omega
      obtain ⟨gq,oq,hoq,hgq,eq⟩:=(HMW.out wr HO.out.c.bel).chans.cell hlt;rw [HOC.out] at hoq;subst hoq;rw [Nat.mul_one] at eq;have hchl:i < (firstD m).chans.length:=by simp [firstD];omega
      have hcs: (firstD m).chans[i]= ⟨m.chans[i],[]⟩:=by simp [firstD]
      obtain ⟨sh,hsh⟩:∃v,m.chans[i]=v:=⟨_,rfl⟩;rw [hsh] at eq hcs;have HCS:=Lib.hid hcs
      replace eq:wr.cell? ⟨gq,oq+i,none⟩=some (.int .i64 sh):=eq
      have n1:wr.cell? ⟨sb,1,none⟩=some (.slice co i cc):=(cell_of_row _ _ 1 _ _ _ HO.out.c.nb).trans rfl;have HYR:Hid ((wr.alloc (.cells #[.int .i64 sh,.slice none 0 0] 61)).ownsRow (w.heap.size+2) 61 2 (.slice co i cc) i xs):=Lib.hid ((HO.out.c.at HO.out.hc).alloc _);have HLE:Hid (w.heap.size+2≤ (wr.alloc (.cells #[.int .i64 sh,.slice none 0 0] 61)).heap.size):=Lib.hid (by have:=HO.out.c.le;simp;omega);have hc32:=HC32.out;clear hcs hsh;go_wp2_with (at_builtin;refine wpList_append_keep rfl _ _ 30 rfl (w.heap.size+2) 61 jc (.agg #[.int .i64 0,.slice none 0 0]) 2 32 Tryd.underlying30 HJC.out.1 HJC.out.2.1 HJC.out.2.2.1 HJC.out.2.2.2 rfl (by decide) (.slice co i cc) i xs rfl HYR.out ⟨wr.heap.size,0,none⟩ 1 1 [.int .i64 sh,.slice none 0 0] rfl rfl (arr_at _ _ _ _ rfl) (by simp [Value.oneCell']) (by unfold maxLen;omega) (by omega) HLE.out ?_);intro co' cc' W7 hr7 hg7 hn7;have HST:Hid (∃R',FO w sb CM (firstD m) (i+1) R' go gc co' cc' (xs ++ [.int .i64 sh,.slice none 0 0]) (W7.setCell ⟨sb,1,none⟩ (.slice co' (i+1) cc'))):=Lib.hid (by
       have:=FO.next (o:= .cells #[.int .i64 sh,.slice none 0 0] 61) HO.out hchl (by rw [HCS.out]) hg7 (by rw [HCS.out];exact hr7) (by rw [World.size_alloc];exact hn7);rw [HCS.out] at this;exact this)
      have hsl:sb < wr.heap.size:=lt_of_block HO.out.c.nb;have hnn:some sb≠ (Value.slice co i cc).ownBlock:=fun e=>owns_neObj (HO.out.c.at HO.out.hc) HO.out.c.nb (by simp) e.symm
      have n1':W7.cell? ⟨sb,1,none⟩=some (.slice co i cc):=(World.cell?_of_block (a:=⟨sb,1,none⟩) (hg7.block _ (by simp;omega) hnn)).trans (((ball (w:=wr) _).cell (p:=⟨sb,1,none⟩) hsl).trans n1);have f1':W7.frozen? ⟨sb,1,none⟩=false:=(World.frozen?_of_block (a:=⟨sb,1,none⟩) (hg7.block _ (by simp;omega) hnn)).trans (((ball (w:=wr) _).frozen (p:=⟨sb,1,none⟩) hsl).trans (frozen_of_row _ _ _ _ _ HO.out.c.nb));clear hr7 hg7 hn7 hsl hnn n1 eq HO;go_wp2_with fail;go_roundw;case rel=>
       obtain ⟨R',ho'⟩:=HST.out;exact ⟨i+1,by go_num,by omega,Lib.hid ⟨_,_,_,_,ho'⟩⟩
      case measure=>simp [intOf];omega
    · have hlti:¬ (i:Int) < m.chans.length:=by omega
      have hie:i= (firstD m).chans.length:=by simp [firstD];omega
      have HP:Hid (FP w sb CM (firstD m) 0 R go gc co cc xs none 0 [] wr):=Lib.hid (FP.start (hie ▸ HO.out));clear hie HO;obtain ⟨op,hop⟩:∃o,h.po=o:=⟨_,rfl⟩;have HOP:=Lib.hid hop;have m4:wr.cell? ⟨w.heap.size,4,none⟩=some (.slice op m.procs.length h.pc):=(cell_of_row _ _ 4 _ _ _ HP.out.c.box).trans (by rw [HCM.out,←HOP.out];rfl);have HP0:Hid (FP w sb CM (firstD m) (cntF m 0) R go gc co cc xs none 0 [] wr):=Lib.hid HP.out;have hpl:=(HMW.out wr HP.out.c.bel).procs.1;clear hop HP;go_wp2_with fail;clear m4
      go_loopw [35] (fun tv W=>∃t:Nat,tv= .int .i64 t∧t≤m.procs.length∧Hid (∃R po pc ps,FP w sb CM (firstD m) (cntF m t) R go gc co cc xs po pc ps W)) (fun tv _=>m.procs.length - (intOf tv).toNat)
      case atStart=>exact ⟨0,rfl,by omega,Lib.hid ⟨_,_,_,_,HP0.out⟩⟩
      case round=>
       clear HP0;obtain ⟨t,rfl,ht,HPX⟩:=hrel;obtain ⟨R,po,pc,ps,hpx⟩:=HPX.out;have HP:=Lib.hid hpx;clear hpx HPX;have ht0: (0:Int)≤t:=by omega
       by_cases htl:t < m.procs.length
       · have htli: (t:Int) < m.procs.length:=by omega
         obtain ⟨p,hp⟩:∃p,m.procs[t]? =some p:=⟨_,List.getElem?_eq_getElem htl⟩;obtain ⟨gp,offp,hop,hgp,hpa⟩:=(HMW.out wr HP.out.c.bel).procs.get hp;rw [HOP.out] at hop;subst hop;obtain ⟨fto,ftc,c2,-⟩:=hpa.frame;obtain ⟨io,ic,c3,-⟩:=hpa.init;obtain ⟨lo,lc,c4,-⟩:=hpa.locs;have c0:=hpa.c0;have c1:=hpa.c1;have c5:=hpa.c5;have c6:=hpa.c6;have c7:=hpa.c7;have c8:=hpa.c8;have c9:=hpa.c9;have HPT:=Lib.hid hp;clear hpa hgp hp;go_upto_region 12 with fail
         obtain ⟨PC,hPC⟩:∃c:Array Value,c= #[.string p.name,.int .i64 p.params,.slice fto p.frame.length ftc,.slice io p.init.length ic,.slice lo p.locs.length lc,.int .i64 p.start,.int .i64 p.final,.int .i64 p.active,.int .i64 p.prio,.int .i64 p.provided]:=⟨_,rfl⟩;have HPC:=Lib.hid hPC;rw [←hPC];clear hPC c0 c1 c2 c3 c4 c5 c6 c7 c8 c9;have HP5:=Lib.hid (HP.out.below (ball (.cells PC 67)));have HPB:Hid ((wr.alloc (.cells PC 67)).heap[wr.heap.size]? =some (.cells PC 67 (0,0))):=Lib.hid (heap_alloc_new wr _);have HPG:Hid (w.heap.size+2≤wr.heap.size):=Lib.hid HP.out.c.le;obtain ⟨pb,hpb⟩:∃b,wr.heap.size=b:=⟨_,rfl⟩;clear HP;generalize wr.alloc (.cells PC 67)=W5 at HP5 HPB ⊢;rw [hpb] at HPB HPG ⊢;clear hpb;have a7:W5.cell? ⟨pb,7,none⟩=some (.int .i64 p.active):=(cell_of_row _ _ 7 _ _ _ HPB.out).trans (by rw [HPC.out];rfl);have hact:=(good_gp HGD.out HPT.out).act;go_wp2_with fail;clear a7
         go_loopw [42] (fun av W=>∃a:Nat,av= .int .i64 a∧ (a:Int)≤p.active∧Hid (∃R po pc ps,FP w sb CM (firstD m) (cntF m t+a) R go gc co cc xs po pc ps W∧W.heap[pb]? =some (.cells PC 67 (0,0)))) (fun av _=>p.active.toNat - (intOf av).toNat)
         case atStart=>exact ⟨0,rfl,by omega,Lib.hid ⟨_,_,_,_,HP5.out,HPB.out⟩⟩
         case round=>
          clear HP5 HPB;obtain ⟨a,rfl,ha,HPX⟩:=hrel;obtain ⟨R,po,pc,ps,hpx,hpb⟩:=HPX.out;have HP:=Lib.hid hpx;have HPB:=Lib.hid hpb;clear hpx hpb HPX;by_cases hal: (a:Int) < p.active
          · have hat:a < p.active.toNat:=by omega
            have hsp:=start_at HPT.out hat;have hjl:cntF m t+a < (firstD m).procs.length:=(List.getElem?_eq_some_iff.1 hsp).1;have hpj: (firstD m).procs[cntF m t+a]=beginD t p (List.replicate p.params.toNat 0):=(List.getElem?_eq_some_iff.1 hsp).2;have hsm:=procs_small HGD.out;have hgp:=good_gp HGD.out HPT.out;obtain ⟨n,hn⟩:∃n:Nat,p.params=n:=⟨p.params.toNat,by have:=hgp.par;omega⟩;rw [hn,Int.toNat_natCast] at hpj;have HPJ:=Lib.hid hpj;have hfl: (beginD t p (List.replicate n 0)).frame.length=p.init.length:=frameK_len _ _ _ _;have HFL:=Lib.hid hfl;have hn128:n≤128:=by have:=hgp.par;have:=hgp.most;omega
            obtain ⟨CA,hCA⟩:∃c,c=madeCells (Value.int .i64 0).cells (n*1):=⟨_,rfl⟩;obtain ⟨ii,hi1,hi2,hi3,hi4⟩:=info_parts info_ints;have mk:∀W:World,(Instr.makeSlice 23 (.int .i64 (n:Int)) (.int .i64 (n:Int))).run Tryd.prog W= .ok (.slice (some ⟨W.heap.size,0,none⟩) n n) (W.alloc (.cells CA 2)):=fun W=>by
             have h1:=run_make (P:=Tryd.prog) W 23 2 ii (.int .i64 0) Tryd.underlying23 hi1 hi2 .i64 .i64 n n (by omega) (by omega) (by rw [hi4];omega) (by omega);rw [Int.toNat_natCast,hi3,←hCA] at h1;exact h1
            have hbw:Below wr.heap.size wr (wr.drew.alloc (.cells CA 2)):=(Below.refl _ _).drew.alloc (Nat.le_refl _) _;have HBG:Hid (Calls Tryd.prog 20 #[.agg #[.slice h.go m.globals.length h.gc,.slice h.io m.init.length h.ic,.slice h.so m.shapes.length h.sc,.slice h.co m.chans.length h.cc,.slice h.po m.procs.length h.pc,.int .i64 m.claim,.slice h.eo m.exprs.length h.ec],.int .i64 t,.slice (some ⟨wr.heap.size,0,none⟩) n n] (wr.drew.alloc (.cells CA 2)) (BegP (wr.drew.alloc (.cells CA 2)) t p (List.replicate n 0))):=Lib.hid (by
             have hb:=HP.out.c.bel.trans (hbw.mono HP.out.c.bel.size);have hrow:Row (wr.drew.alloc (.cells CA 2)).heap.size (some ⟨wr.heap.size,0,none⟩) 1 (intAt (wr.drew.alloc (.cells CA 2))) (List.replicate n (0:Int)):=by
              refine ⟨by simp;omega,.inr ⟨wr.heap.size,0,rfl,by simp,fun i hi=> ?_⟩⟩;have hi':i < n:=by simpa using hi
              unfold intAt;refine (cell_of_row _ _ _ _ _ _ (heap_alloc_new wr.drew _)).trans ?_;rw [hCA];simp [madeCells,Value.cells,hi',Nat.mod_one]
             have h1:=begunC (B:=(wr.drew.alloc (.cells CA 2)).heap.size) (ac:=n) (wr.drew.alloc (.cells CA 2)) (Nat.le_refl _) ((HMW.out _ hb).lift hb.size) HPT.out hgp.init (by have:=hgp.most;have:=hgp.init;omega) hrow (by have:=hgp.par;simp;omega);rw [List.length_replicate] at h1;unfold mV mCells at h1;exact h1)
            obtain ⟨jp,hjp,jp0,jp1,jp2⟩:=info_parts info_procs;have HJP:=Lib.hid (And.intro hjp (And.intro jp0 (And.intro jp1 jp2)));have n2:wr.cell? ⟨sb,2,none⟩=some (.slice po (cntF m t+a) pc):=(cell_of_row _ _ 2 _ _ _ HP.out.c.nb).trans rfl;have b1:wr.cell? ⟨pb,1,none⟩=some (.int .i64 n):=(cell_of_row _ _ 1 _ _ _ HPB.out).trans (by rw [HPC.out,←hn];rfl);have z2:∀W,Below wr.heap.size wr W→W.cell? ⟨sb,2,none⟩=some (.slice po (cntF m t+a) pc):=fun W hb=>(hb.cell (p:=⟨sb,2,none⟩) (lt_of_block HP.out.c.nb)).trans n2
            have z1:∀W,Below wr.heap.size wr W→W.cell? ⟨pb,1,none⟩=some (.int .i64 n):=fun W hb=>(hb.cell (p:=⟨pb,1,none⟩) (lt_of_block HPB.out)).trans b1
            have HBX:Hid (∀W,Below wr.heap.size wr W→W.heap[w.heap.size]? =some (.cells CM 29 (0,0))):=Lib.hid fun W hb=>(hb.block _ (lt_of_block HP.out.c.box)).trans HP.out.c.box
            have y0:∀W,Below wr.heap.size wr W→W.cell? ⟨w.heap.size,0,none⟩=some (.slice h.go m.globals.length h.gc):=fun W hb=>(cell_of_row _ _ 0 _ _ _ (HBX.out W hb)).trans (by rw [HCM.out];rfl)
            have y1:∀W,Below wr.heap.size wr W→W.cell? ⟨w.heap.size,1,none⟩=some (.slice h.io m.init.length h.ic):=fun W hb=>(cell_of_row _ _ 1 _ _ _ (HBX.out W hb)).trans (by rw [HCM.out];rfl)
            have y2:∀W,Below wr.heap.size wr W→W.cell? ⟨w.heap.size,2,none⟩=some (.slice h.so m.shapes.length h.sc):=fun W hb=>(cell_of_row _ _ 2 _ _ _ (HBX.out W hb)).trans (by rw [HCM.out];rfl)
            have y3:∀W,Below wr.heap.size wr W→W.cell? ⟨w.heap.size,3,none⟩=some (.slice h.co m.chans.length h.cc):=fun W hb=>(cell_of_row _ _ 3 _ _ _ (HBX.out W hb)).trans (by rw [HCM.out];rfl)
            have y4:∀W,Below wr.heap.size wr W→W.cell? ⟨w.heap.size,4,none⟩=some (.slice h.po m.procs.length h.pc):=fun W hb=>(cell_of_row _ _ 4 _ _ _ (HBX.out W hb)).trans (by rw [HCM.out];rfl)
            have y5:∀W,Below wr.heap.size wr W→W.cell? ⟨w.heap.size,5,none⟩=some (.int .i64 m.claim):=fun W hb=>(cell_of_row _ _ 5 _ _ _ (HBX.out W hb)).trans (by rw [HCM.out];rfl)
            have y6:∀W,Below wr.heap.size wr W→W.cell? ⟨w.heap.size,6,none⟩=some (.slice h.eo m.exprs.length h.ec):=fun W hb=>(cell_of_row _ _ 6 _ _ _ (HBX.out W hb)).trans (by rw [HCM.out];rfl)
            have HF2:Hid (wr.frozen? ⟨sb,2,none⟩=false):=Lib.hid (frozen_of_row _ _ _ _ _ HP.out.c.nb);have hD:Below wr.heap.size wr wr.drew:=(Below.refl _ _).drew;have hR:Below wr.heap.size wr wr:=Below.refl _ _;have hAD:∀W,Below wr.heap.size wr W→Below wr.heap.size wr W.drew:=fun W hb=>hb.drew
            have hA:∀W o,Below wr.heap.size wr W→Below wr.heap.size wr (W.alloc o):=fun W o hb=>hb.alloc hb.size _
            clear hsp hpj hfl hn hCA hi1 hi2 hi3 hi4 hbw hjp jp0 jp1 jp2 n2 b1 hgp hat;go_upto_region 14 with fail
            go_region_law
             (first
               | (refine step_append_keep rfl _ _ 31 rfl (w.heap.size+2) 63 jp (.agg #[.int .i64 0,.int .i64 0,.int .i64 0,.slice none 0 0]) 4 48 Tryd.underlying31 HJP.out.1 HJP.out.2.1 HJP.out.2.2.1 HJP.out.2.2.2 rfl (by decide) (.slice po (cntF m t+a) pc) (cntF m t+a) ps rfl HYR.out ⟨w2.heap.size,0,none⟩ 1 1 [.int .i64 t,.int .i64 p.start,.int .i64 p.prio,.slice fo p.init.length fc] rfl rfl (arr_at _ _ _ _ rfl) (by simp [Value.oneCell']) (by unfold maxLen;omega) (by omega) HLE2.out ?_;intro po' pc' w3 hr3 hg3 hn3;have n3:w3.cell? ⟨sb,2,none⟩=some (.slice po (cntF m t+a) pc):=(World.cell?_of_block (a:=⟨sb,2,none⟩) (hg3.block _ HN3.out.1 HN3.out.2)).trans (z2 _ (hA _ _ hB2));have f3:w3.frozen? ⟨sb,2,none⟩=false:=(World.frozen?_of_block (a:=⟨sb,2,none⟩) (hg3.block _ HN3.out.1 HN3.out.2)).trans (((hA _ _ hB2).frozen (p:=⟨sb,2,none⟩) (lt_of_block HP.out.c.nb)).trans HF2.out))
               | (go_simp;go_at_call 20;refine HBG.out.mono ?_;rintro e w2 ⟨fo,fc,rfl,hown2,hb2⟩;have hB2:Below wr.heap.size wr w2:=(hA _ (.cells CA 2) hD).trans (hb2.mono (hA _ (.cells CA 2) hD).size);have HB2:=Lib.hid hB2;have HOW2:=Lib.hid (Joins.ownsRow_le hown2 (hA _ (.cells CA 2) hD).size);have HYR:Hid ((w2.alloc (.cells #[.int .i64 t,.int .i64 p.start,.int .i64 p.prio,.slice fo p.init.length fc] 63)).ownsRow (w.heap.size+2) 63 4 (.slice po (cntF m t+a) pc) (cntF m t+a) ps):=Lib.hid ((owns_below (HP.out.c.at HP.out.hp) hB2).alloc _);have HLE2:Hid (w.heap.size+2≤ (w2.alloc (.cells #[.int .i64 t,.int .i64 p.start,.int .i64 p.prio,.slice fo p.init.length fc] 63)).heap.size):=Lib.hid (by have:=HP.out.c.le;have:=hB2.size;simp;omega);have HN3:Hid (sb < (w2.alloc (.cells #[.int .i64 t,.int .i64 p.start,.int .i64 p.prio,.slice fo p.init.length fc] 63)).heap.size∧some sb≠ (Value.slice po (cntF m t+a) pc).ownBlock):=Lib.hid ⟨by have:=lt_of_block HP.out.c.nb;have:=hB2.size;simp;omega,fun e=>owns_neObj (HP.out.c.at HP.out.hp) HP.out.c.nb (by simp) e.symm⟩;clear hown2 hb2))
            all_goals (
             have HST:Hid (∃R',FP w sb CM (firstD m) (cntF m t+a+1) R' go gc co cc xs po' pc' (ps ++ [.int .i64 t,.int .i64 p.start,.int .i64 p.prio,.slice fo p.init.length fc]) (w3.setCell ⟨sb,2,none⟩ (.slice po' (cntF m t+a+1) pc'))):=Lib.hid (by
              have:=HP.out.step (o:= .cells #[.int .i64 t,.int .i64 p.start,.int .i64 p.prio,.slice fo p.init.length fc] 63) (fo:=fo) (fc:=fc) hjl HB2.out (by rw [HPJ.out,HFL.out];exact HOW2.out) hg3 (by rw [HPJ.out,HFL.out];exact hr3) hn3;rw [HPJ.out,HFL.out] at this;exact this)
             have HPB3:Hid ((w3.setCell ⟨sb,2,none⟩ (.slice po' (cntF m t+a+1) pc')).heap[pb]? =some (.cells PC 67 (0,0))):=Lib.hid (by
              have hne:pb≠sb:=fun e=>by
               have h1:=HPB.out;rw [e,HP.out.c.nb] at h1;simp at h1
              have hlt:=lt_of_block HPB.out;rw [heap_setCell_other _ _ _ _ hne];exact (hg3.block pb (by have:=HB2.out.size;simp;omega) (fun e=>owns_neObj (HP.out.c.at HP.out.hp) HPB.out (by simp) e.symm)).trans (((hA _ _ HB2.out).block pb hlt).trans HPB.out))
             clear n3 f3 hr3 hg3 hn3 z1 z2 y0 y1 y2 y3 y4 y5 y6 hD hR hAD hA mk
             try simp only [Exit.inBlock,Exit.then]
             go_wp2_with fail;go_roundw;case rel=>
              obtain ⟨R',hp'⟩:=HST.out;exact ⟨a+1,by go_num,by omega,Lib.hid ⟨_,_,_,_,hp',HPB3.out⟩⟩
             case measure=>simp [intOf];omega)
          · have hae:cntF m t+a=cntF m (t+1):=by rw [cnt_step HPT.out];omega
            have HQ:Hid (FP w sb CM (firstD m) (cntF m (t+1)) R go gc co cc xs po pc ps wr):=Lib.hid (hae ▸ HP.out);clear hae HP;go_wp2_with fail;go_roundw;case rel=>exact ⟨t+1,by go_num,by omega,Lib.hid ⟨_,_,_,_,HQ.out⟩⟩
            case measure=>simp [intOf];omega
       · have htli:¬ (t:Int) < m.procs.length:=by omega
         have hte:cntF m t= (firstD m).procs.length:=by
          rw [show t=m.procs.length by omega,cnt_all];rfl
         have HQ:Hid (FP w sb CM (firstD m) (firstD m).procs.length R go gc co cc xs po pc ps wr):=Lib.hid (hte ▸ HP.out);clear hte HP;have hcl:=good_claim HGD.out;have m5:wr.cell? ⟨w.heap.size,5,none⟩=some (.int .i64 m.claim):=(cell_of_row _ _ 5 _ _ _ HQ.out.c.box).trans (by rw [HCM.out];rfl);have HSPL:Hid (Spl R ⟨go,gc,co,cc,po,pc⟩ (firstD m)):=Lib.hid ⟨HQ.out.hg,⟨xs,HQ.out.hc,HQ.out.ok⟩,⟨ps,HQ.out.hp,fun k hk=>HQ.out.pk k hk hk⟩⟩;have HNE:Hid (∀k,(R k).v.ownBlock≠some (w.heap.size+1)):=Lib.hid fun k e=>by have:=((HQ.out.c.own.row k).lt _ e).1;omega
         by_cases hcn:m.claim < 0
         · have hd:decide (0≤m.claim)=false:=decide_eq_false (by omega);have HCV:Hid ((firstD m).claim= -1):=Lib.hid (by unfold firstD;exact if_pos hcn);have s0:=(cell_of_row _ _ 0 _ _ _ HQ.out.c.nb).trans rfl;have s1:=(cell_of_row _ _ 1 _ _ _ HQ.out.c.nb).trans rfl;have s2:=(cell_of_row _ _ 2 _ _ _ HQ.out.c.nb).trans rfl;have s3:=(cell_of_row _ _ 3 _ _ _ HQ.out.c.nb).trans rfl;have s4:=(cell_of_row _ _ 4 _ _ _ HQ.out.c.nb).trans rfl;have s5:=(cell_of_row _ _ 5 _ _ _ HQ.out.c.nb).trans rfl;have q0:=(cell_of_row _ _ 0 _ _ _ HQ.out.c.res).trans rfl;have q1:=(cell_of_row _ _ 1 _ _ _ HQ.out.c.res).trans rfl;have q2:=(cell_of_row _ _ 2 _ _ _ HQ.out.c.res).trans rfl;have q3:=(cell_of_row _ _ 3 _ _ _ HQ.out.c.res).trans rfl;have q4:=(cell_of_row _ _ 4 _ _ _ HQ.out.c.res).trans rfl;have q5:=(cell_of_row _ _ 5 _ _ _ HQ.out.c.res).trans rfl;have t0:=frozen_of_row _ _ 0 _ _ HQ.out.c.res;have t1:=frozen_of_row _ _ 1 _ _ HQ.out.c.res;have t2:=frozen_of_row _ _ 2 _ _ HQ.out.c.res;have t3:=frozen_of_row _ _ 3 _ _ HQ.out.c.res;have t4:=frozen_of_row _ _ 4 _ _ HQ.out.c.res;have t5:=frozen_of_row _ _ 5 _ _ HQ.out.c.res;have HOE:=Lib.hid (six_own (HQ.out.c.own.mono (B':=w.heap.size) (by omega)) HNE.out);have HBE:=Lib.hid (six_below (b:=w.heap.size+1) HQ.out.c.bel (by omega));clear HQ;go_wp2_with fail;refine bodyPost_ret (v:= .tuple #[.agg #[.slice go (firstD m).globals.length gc,.slice co (firstD m).chans.length cc,.slice po (firstD m).procs.length pc,.int .i64 (firstD m).last,.int .i64 (firstD m).alone,.int .i64 (-1)],.int .i64 0]) (by simp [results,Tryd.results8,go_sem,q0,q1,q2,q3,q4,q5,t0,t1,t2,t3,t4,t5]) rfl ?_;exact ⟨fun h=>absurd h (by rw [HGD.out];simp),fun _=>⟨⟨go,gc,co,cc,po,pc⟩,by unfold sV sCells;rw [HCV.out],⟨R,HOE.out _ _ _ _ _ _,HSPL.out⟩,HBE.out _ _ _ _ _ _⟩⟩
         · obtain ⟨k,hk⟩:∃k:Nat,m.claim=k:=⟨m.claim.toNat,by omega⟩;have hkl:k < m.procs.length:=by omega
           have hki: (k:Int) < m.procs.length:=by omega
           have hk0: (0:Int)≤k:=by omega
           have hd:decide (0≤ (k:Int))=true:=decide_eq_true hk0;obtain ⟨pp,hpp⟩:∃p,m.procs[k]? =some p:=⟨_,List.getElem?_eq_getElem hkl⟩;obtain ⟨gp,offp,hop,hgp,hpa⟩:=(HMW.out wr HQ.out.c.bel).procs.get hpp;have HCV:Hid ((firstD m).claim=pp.start):=Lib.hid (by unfold firstD;simp only;rw [if_neg hcn,hk,Int.toNat_natCast,hpp];rfl);rw [HOP.out] at hop;have m4:wr.cell? ⟨w.heap.size,4,none⟩=some (.slice op m.procs.length h.pc):=(cell_of_row _ _ 4 _ _ _ HQ.out.c.box).trans (by rw [HCM.out,←HOP.out];rfl);subst hop;have e5:=hpa.c5;rw [hk] at m5;have n5:wr.cell? ⟨sb,5,none⟩=some (.int .i64 (-1)):=(cell_of_row _ _ 5 _ _ _ HQ.out.c.nb).trans rfl;have f5:wr.frozen? ⟨sb,5,none⟩=false:=frozen_of_row _ _ _ _ _ HQ.out.c.nb;have HN:=Lib.hid (HQ.out.c.nset 5 (.int .i64 pp.start));clear hpa hpp hgp hk hcn HQ;go_upto_region 19 with fail
           clear m4 m5 e5 n5 f5;generalize wr.setCell ⟨sb,5,none⟩ (.int .i64 pp.start)=W9 at HN ⊢;have s0:=(cell_of_row _ _ 0 _ _ _ HN.out.nb).trans rfl;have s1:=(cell_of_row _ _ 1 _ _ _ HN.out.nb).trans rfl;have s2:=(cell_of_row _ _ 2 _ _ _ HN.out.nb).trans rfl;have s3:=(cell_of_row _ _ 3 _ _ _ HN.out.nb).trans rfl;have s4:=(cell_of_row _ _ 4 _ _ _ HN.out.nb).trans rfl;have s5:=(cell_of_row _ _ 5 _ _ _ HN.out.nb).trans rfl;have q0:=(cell_of_row _ _ 0 _ _ _ HN.out.res).trans rfl;have q1:=(cell_of_row _ _ 1 _ _ _ HN.out.res).trans rfl;have q2:=(cell_of_row _ _ 2 _ _ _ HN.out.res).trans rfl;have q3:=(cell_of_row _ _ 3 _ _ _ HN.out.res).trans rfl;have q4:=(cell_of_row _ _ 4 _ _ _ HN.out.res).trans rfl;have q5:=(cell_of_row _ _ 5 _ _ _ HN.out.res).trans rfl;have t0:=frozen_of_row _ _ 0 _ _ HN.out.res;have t1:=frozen_of_row _ _ 1 _ _ HN.out.res;have t2:=frozen_of_row _ _ 2 _ _ HN.out.res;have t3:=frozen_of_row _ _ 3 _ _ HN.out.res;have t4:=frozen_of_row _ _ 4 _ _ HN.out.res;have t5:=frozen_of_row _ _ 5 _ _ HN.out.res;have HOE:=Lib.hid (six_own (HN.out.own.mono (B':=w.heap.size) (by omega)) HNE.out);have HBE:=Lib.hid (six_below (b:=w.heap.size+1) HN.out.bel (by omega));clear HN;go_wp2_with fail;refine bodyPost_ret (v:= .tuple #[.agg #[.slice go (firstD m).globals.length gc,.slice co (firstD m).chans.length cc,.slice po (firstD m).procs.length pc,.int .i64 (firstD m).last,.int .i64 (firstD m).alone,.int .i64 pp.start],.int .i64 0]) (by simp [results,Tryd.results8,go_sem,q0,q1,q2,q3,q4,q5,t0,t1,t2,t3,t4,t5]) rfl ?_;exact ⟨fun h=>absurd h (by rw [HGD.out];simp),fun _=>⟨⟨go,gc,co,cc,po,pc⟩,by unfold sV sCells;rw [HCV.out],⟨R,HOE.out _ _ _ _ _ _,HSPL.out⟩,HBE.out _ _ _ _ _ _⟩⟩
end Go.Proofs.YtnoibjahliafpaaDoor
