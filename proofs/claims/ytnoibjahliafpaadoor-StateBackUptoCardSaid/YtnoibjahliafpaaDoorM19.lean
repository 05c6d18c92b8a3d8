/- Which states may be. -/
import Derived.Test.YtnoibjahliafpaaDoorM05
import Derived.Test.YtnoibjahliafpaaDoorM18
set_option linter.unusedVariables false
set_option linter.unusedSimpArgs false
namespace Go.Proofs.YtnoibjahliafpaaDoor
open Go.ChangeShapes Go.WideShapes Go.ChangeAt Go.RowKit
set_option maxHeartbeats 8000000 in
set_option maxRecDepth 100000 in
theorem mayC {B pm ps:Nat} {h:MH} {hs:SH} {m:ModelD} {s:StateD} (w:World) (hk:Ck B w pm h m) (hks:Sk B w ps 0 hs s) (hcl:m.claim < m.procs.length):
 Calls Tryd.prog 16 #[.pointer (some ⟨pm,0,none⟩),.pointer (some ⟨ps,0,none⟩)] w fun e w'=>e= .returned (.bool (mayB m s))∧Below w.heap.size w w':=by
 have HK:=Lib.hid hk;have HS:=Lib.hid hks;have hB:B≤w.heap.size:=by have:=hk.le;have:=hk.lt;omega
 have HKW:Hid (∀W,Below w.heap.size w W→Ck B W pm h m∧Sk B W ps 0 hs s):=Lib.hid fun W hb=>⟨HK.out.below hb,HS.out.below hb⟩
 have c0:=hk.c0;have s0:=hks.c0;have l1:=hks.sd.chans.1;have l2:=hks.sd.procs.1;have l3:=hk.md.procs.1;have HV:Hid (mayB m s= (fitsL m.globals s.globals && decide (s.chans.length≤32∧s.procs.length≤16) && s.chans.all (chanMayB m) && s.procs.all (procMayB m) && mayTailB m s)):=Lib.hid rfl;clear hk hks;go_enter Tryd.func16,Tryd.ntmps16;go_wp2_with fail;go_still_tail 8,(by kernel_rfl);change wpList _ _ _ _ _ w.drew;have HB2:Hid (Below w.heap.size w w.drew):=Lib.hid (Below.refl _ _).drew;generalize w.drew=W2 at HB2 ⊢;clear c0 s0;go_wp2_with fail;refine (sfitsC m.globals s.globals h.go hs.go h.gc hs.gc W2 (by have:=HB2.out.size;omega) (HKW.out _ HB2.out).1.md.globals (HKW.out _ HB2.out).2.sd.globals).mono ?_;rintro e W3 ⟨rfl,hb3⟩;have HB3:=Lib.hid (HB2.out.trans (hb3.mono HB2.out.size));clear hb3 HB2;obtain ⟨u,hu⟩:∃u,fitsL m.globals s.globals=u:=⟨_,rfl⟩;rw [hu];have HU:=Lib.hid hu;clear hu;cases u
 · have HZ:Hid (mayB m s=false):=Lib.hid (by rw [HV.out,HU.out];rfl);go_wp2_with fail;go_ret;exact ⟨retB HZ.out.symm,HB3.out⟩
 · have s1:W3.cell? ⟨ps,1,none⟩=some (.slice hs.co s.chans.length hs.cc):=by have:=(HKW.out _ HB3.out).2.c1;rwa [Nat.zero_add] at this
   have s2:W3.cell? ⟨ps,2,none⟩=some (.slice hs.po s.procs.length hs.pc):=by have:=(HKW.out _ HB3.out).2.c2;rwa [Nat.zero_add] at this
   by_cases n1:32 < s.chans.length
   · have d1:decide (32 < s.chans.length)=true:=decide_eq_true n1;have d1i:decide ((32:Int) < (s.chans.length:Int))=true:=decide_eq_true (by omega);have HZ:Hid (mayB m s=false):=Lib.hid (by rw [HV.out,decide_eq_false (p:=s.chans.length≤32∧s.procs.length≤16) (by omega)];simp);clear n1;go_wp2_with fail;go_ret;exact ⟨retB HZ.out.symm,HB3.out⟩
   · have d1:decide (32 < s.chans.length)=false:=decide_eq_false n1;have d1i:decide ((32:Int) < (s.chans.length:Int))=false:=decide_eq_false (by omega);by_cases n2:16 < s.procs.length
     · have d2:decide (16 < s.procs.length)=true:=decide_eq_true n2;have d2i:decide ((16:Int) < (s.procs.length:Int))=true:=decide_eq_true (by omega);have HZ:Hid (mayB m s=false):=Lib.hid (by rw [HV.out,decide_eq_false (p:=s.chans.length≤32∧s.procs.length≤16) (by omega)];simp);clear n1 n2;go_wp2_with fail;go_ret;exact ⟨retB HZ.out.symm,HB3.out⟩
     · have d2:decide (16 < s.procs.length)=false:=decide_eq_false n2;have d2i:decide ((16:Int) < (s.procs.length:Int))=false:=decide_eq_false (by omega);have HV2:Hid (mayB m s= (s.chans.all (chanMayB m) && s.procs.all (procMayB m) && mayTailB m s)):=Lib.hid (by rw [HV.out,HU.out,decide_eq_true (p:=s.chans.length≤32∧s.procs.length≤16) (by omega)];simp);clear n1 n2 HV HU;go_wp2_with fail;clear s1 s2 d1 d1i d2 d2i
       go_loopw [38] (fun iv W=>∃i:Nat,iv= .int .i64 i∧i≤s.chans.length∧Hid (∀j (hj:j < s.chans.length),j < i→chanMayB m s.chans[j]=true)∧Hid (Below w.heap.size w W)) (fun iv _=>s.chans.length - (intOf iv).toNat)
       case atStart=>exact ⟨0,rfl,by omega,Lib.hid fun j _ h=>by omega,HB3⟩
       case round=>
        clear HB3;obtain ⟨i,rfl,hi,HJ,HB⟩:=hrel;have hi0: (0:Int)≤i:=by omega
        by_cases hlt:i < s.chans.length
        · have hlti: (i:Int) < s.chans.length:=by omega
          obtain ⟨c,hc⟩:∃c,s.chans[i]? =some c:=⟨_,List.getElem?_eq_getElem hlt⟩;obtain ⟨g,off,hog,hg,hca⟩:=(HKW.out _ HB.out).2.sd.chans.get hc;have hce:s.chans[i]=c:=by obtain ⟨_,h⟩:=List.getElem?_eq_some_iff.1 hc;exact h
          have HBAD:Hid (chanMayB m c=false→mayB m s=false):=Lib.hid fun h=>by rw [HV2.out,all_bad hlt (by rw [hce];exact h)];rfl
          have HGO:Hid (chanMayB m c=true→∀j (hj:j < s.chans.length),j < i+1→chanMayB m s.chans[j]=true):=Lib.hid fun h j hj hjk=>by
           by_cases e:j=i
           · subst e;rw [hce];exact h
           · exact HJ.out j hj (by omega)
          have s1:wr.cell? ⟨ps,1,none⟩=some (.slice (some ⟨g,off,none⟩) s.chans.length hs.cc):=by have:=(HKW.out _ HB.out).2.c1;rw [Nat.zero_add,hog] at this;exact this
          have HCA:=Lib.hid hca;clear hc hog hca hce;go_wp2_with fail;clear s1;refine (chanMayC wr (HKW.out _ HB.out).1 HCA.out hg).mono ?_;rintro e W4 ⟨rfl,hb4⟩;have HB4:=Lib.hid (HB.out.trans (hb4.mono HB.out.size));clear hb4;obtain ⟨u,hu⟩:∃u,chanMayB m c=u:=⟨_,rfl⟩;rw [hu];have HU:=Lib.hid hu;clear hu;cases u
          · have HZ:=Lib.hid (HBAD.out HU.out);go_wp2_with fail;go_ret;exact ⟨retB HZ.out.symm,HB4.out⟩
          · have HZ:=Lib.hid (HGO.out HU.out);go_wp2_with fail;go_roundw;case rel=>exact ⟨i+1,by go_num,by omega,HZ,HB4⟩
            case measure=>simp [intOf];omega
        · have hlti:¬ (i:Int) < s.chans.length:=by omega
          have HV3:Hid (mayB m s= (s.procs.all (procMayB m) && mayTailB m s)):=Lib.hid (by rw [HV2.out,all_of fun j hj=>HJ.out j hj (by omega)];rfl);have s2:wr.cell? ⟨ps,2,none⟩=some (.slice hs.po s.procs.length hs.pc):=by have:=(HKW.out _ HB.out).2.c2;rwa [Nat.zero_add] at this
          clear HV2 HJ;go_wp2_with fail;clear s2
          go_loopw [56] (fun iv W=>∃i:Nat,iv= .int .i64 i∧i≤s.procs.length∧Hid (∀j (hj:j < s.procs.length),j < i→procMayB m s.procs[j]=true)∧Hid (Below w.heap.size w W)) (fun iv _=>s.procs.length - (intOf iv).toNat)
          case atStart=>exact ⟨0,rfl,by omega,Lib.hid fun j _ h=>by omega,HB⟩
          case round=>
           clear HB hlti hlt hi0 hi;obtain ⟨i,rfl,hi,HJ,HB⟩:=hrel;have hi0: (0:Int)≤i:=by omega
           by_cases hlt:i < s.procs.length
           · have hlti: (i:Int) < s.procs.length:=by omega
             obtain ⟨c,hc⟩:∃c,s.procs[i]? =some c:=⟨_,List.getElem?_eq_getElem hlt⟩;obtain ⟨g,off,hog,hg,hca⟩:=(HKW.out _ HB.out).2.sd.procs.get hc;have hce:s.procs[i]=c:=by obtain ⟨_,h⟩:=List.getElem?_eq_some_iff.1 hc;exact h
             have HBAD:Hid (procMayB m c=false→mayB m s=false):=Lib.hid fun h=>by rw [HV3.out,all_bad hlt (by rw [hce];exact h)];rfl
             have HGO:Hid (procMayB m c=true→∀j (hj:j < s.procs.length),j < i+1→procMayB m s.procs[j]=true):=Lib.hid fun h j hj hjk=>by
              by_cases e:j=i
              · subst e;rw [hce];exact h
              · exact HJ.out j hj (by omega)
             have s2:wr.cell? ⟨ps,2,none⟩=some (.slice (some ⟨g,off,none⟩) s.procs.length hs.pc):=by have:=(HKW.out _ HB.out).2.c2;rw [Nat.zero_add,hog] at this;exact this
             have HCA:=Lib.hid hca;clear hc hog hca hce;go_wp2_with fail;clear s2;refine (processMayC wr (HKW.out _ HB.out).1 HCA.out hg).mono ?_;rintro e W4 ⟨rfl,hb4⟩;have HB4:=Lib.hid (HB.out.trans (hb4.mono HB.out.size));clear hb4;obtain ⟨u,hu⟩:∃u,procMayB m c=u:=⟨_,rfl⟩;rw [hu];have HU:=Lib.hid hu;clear hu;cases u
             · have HZ:=Lib.hid (HBAD.out HU.out);go_wp2_with fail;go_ret;exact ⟨retB HZ.out.symm,HB4.out⟩
             · have HZ:=Lib.hid (HGO.out HU.out);go_wp2_with fail;go_roundw;case rel=>exact ⟨i+1,by go_num,by omega,HZ,HB4⟩
               case measure=>simp [intOf];omega
           · have hlti:¬ (i:Int) < s.procs.length:=by omega
             have HV4:Hid (mayB m s=mayTailB m s):=Lib.hid (by rw [HV3.out,all_of fun j hj=>HJ.out j hj (by omega)];rfl);have HCE:Hid (∀W,Below w.heap.size w W→W.cell? ⟨ps,2,none⟩=some (.slice hs.po s.procs.length hs.pc)∧W.cell? ⟨ps,3,none⟩=some (.int .i64 s.last)∧W.cell? ⟨ps,4,none⟩=some (.int .i64 s.alone)∧W.cell? ⟨ps,5,none⟩=some (.int .i64 s.claim)∧W.cell? ⟨pm,5,none⟩=some (.int .i64 m.claim)∧W.cell? ⟨pm,4,none⟩=some (.slice h.po m.procs.length h.pc)):=Lib.hid fun W hb=>by
              have h2:=(HKW.out W hb).2.c2;have h3:=(HKW.out W hb).2.c3;have h4:=(HKW.out W hb).2.c4;have h5:=(HKW.out W hb).2.c5;rw [Nat.zero_add] at h2 h3 h4 h5;exact ⟨h2,h3,h4,h5,(HKW.out W hb).1.c5,(HKW.out W hb).1.c4⟩
             clear HV3 HJ;obtain ⟨v2,v3,v4,v5,v6,v7⟩:=HCE.out _ HB.out;by_cases t0:s.last < 0
             · have e0:decide (s.last < 0)=true:=decide_eq_true t0;have HZ:Hid (mayB m s=false):=Lib.hid (by rw [HV4.out];unfold mayTailB;rw [decide_eq_false (p:=0≤s.last∧s.last < 16∧ -1≤s.alone∧s.alone < s.procs.length) (by omega)];rfl);clear t0;go_wp2_with fail;go_quiet (fail);go_wp2_with fail;go_ret;exact ⟨retB HZ.out.symm,bdrew HB.out _⟩
             · have e0:decide (s.last < 0)=false:=decide_eq_false t0;by_cases t1:16≤s.last
               · have e1:decide (16≤s.last)=true:=decide_eq_true t1;have HZ:Hid (mayB m s=false):=Lib.hid (by rw [HV4.out];unfold mayTailB;rw [decide_eq_false (p:=0≤s.last∧s.last < 16∧ -1≤s.alone∧s.alone < s.procs.length) (by omega)];rfl);clear t0 t1;go_wp2_with fail;go_quiet (fail);go_wp2_with fail;go_ret;exact ⟨retB HZ.out.symm,bdrew HB.out _⟩
               · have e1:decide (16≤s.last)=false:=decide_eq_false t1;by_cases t2:s.alone < -1
                 · have e2:decide (s.alone < -1)=true:=decide_eq_true t2;have HZ:Hid (mayB m s=false):=Lib.hid (by rw [HV4.out];unfold mayTailB;rw [decide_eq_false (p:=0≤s.last∧s.last < 16∧ -1≤s.alone∧s.alone < s.procs.length) (by omega)];rfl);clear t0 t1 t2;go_wp2_with fail;go_quiet (fail);go_wp2_with fail;go_ret;exact ⟨retB HZ.out.symm,bdrew HB.out _⟩
                 · have e2:decide (s.alone < -1)=false:=decide_eq_false t2;by_cases t3: (s.procs.length:Int)≤s.alone
                   · have e3:decide ((s.procs.length:Int)≤s.alone)=true:=decide_eq_true t3;have HZ:Hid (mayB m s=false):=Lib.hid (by rw [HV4.out];unfold mayTailB;rw [decide_eq_false (p:=0≤s.last∧s.last < 16∧ -1≤s.alone∧s.alone < s.procs.length) (by omega)];rfl);clear t0 t1 t2 t3;go_wp2_with fail;go_quiet (fail);go_wp2_with fail;go_ret;exact ⟨retB HZ.out.symm,bdrew HB.out _⟩
                   · have e3:decide ((s.procs.length:Int)≤s.alone)=false:=decide_eq_false t3;have HV5:Hid (mayB m s=if m.claim < 0 then decide (s.claim= -1) else decide (0≤s.claim∧s.claim < claimLocs m)):=Lib.hid (by rw [HV4.out];unfold mayTailB;rw [decide_eq_true (p:=0≤s.last∧s.last < 16∧ -1≤s.alone∧s.alone < s.procs.length) (by omega)];rfl);clear t0 t1 t2 t3;go_wp2_with fail;go_quiet (fail);have HB1:Hid (Below w.heap.size w (wr.drewN nq)):=Lib.hid (bdrew HB.out nq);generalize wr.drewN nq=W5 at HB1 ⊢;clear v2 v3 v4 v5 v6 v7 e0 e1 e2 e3;obtain ⟨v2,v3,v4,v5,v6,v7⟩:=HCE.out _ HB1.out;by_cases t4:m.claim < 0
                     · by_cases t5:s.claim= -1
                       · have e5: (s.claim == -1)=true:=by rw [beq_iff_eq];exact t5
                         have HZ:Hid (mayB m s=true):=Lib.hid (by rw [HV5.out,if_pos t4];exact decide_eq_true t5);clear t5;go_wp2_with fail;go_ret;exact ⟨retB HZ.out.symm,HB1.out⟩
                       · have e5: (s.claim == -1)=false:=by rw [beq_eq_false_iff_ne];exact t5
                         have HZ:Hid (mayB m s=false):=Lib.hid (by rw [HV5.out,if_pos t4];exact decide_eq_false t5);clear t5;go_wp2_with fail;go_ret;exact ⟨retB HZ.out.symm,HB1.out⟩
                     · obtain ⟨k,hk⟩:∃k:Nat,m.claim=k:=⟨m.claim.toNat,by omega⟩;have hkl:k < m.procs.length:=by omega
                       have hki: (k:Int) < m.procs.length:=by omega
                       have hkz: (0:Int)≤k:=by omega
                       have hkn:¬ (k:Int) < 0:=by omega
                       obtain ⟨t,ht⟩:∃t,m.procs[k]? =some t:=⟨_,List.getElem?_eq_getElem hkl⟩;obtain ⟨g3,off3,ho3,hg3,hpa⟩:=HK.out.md.procs.get ht;obtain ⟨lo,lc,r4,hlr⟩:=hpa.locs;have HL4:Hid (∀W,Below w.heap.size w W→W.cell? ⟨g3,off3+k*10+4,none⟩=some (.slice lo t.locs.length lc)):=Lib.hid fun W hb=>(hb.cell (by show g3 < _;omega)).trans r4
                       have r4:=HL4.out _ HB1.out;have hll:=hlr.1;have HV6:Hid (mayB m s=decide (0≤s.claim∧s.claim < t.locs.length)):=Lib.hid (by rw [HV5.out,if_neg t4];unfold claimLocs;rw [hk,Int.toNat_natCast,ht];rfl);rw [hk] at v6;rw [ho3] at v7;clear hk t4 ht ho3 hpa hlr HV5;by_cases t5:0≤s.claim
                       · have e5:decide (0≤s.claim)=true:=decide_eq_true t5;by_cases t6:s.claim < (t.locs.length:Int)
                         · have e6:decide (s.claim < (t.locs.length:Int))=true:=decide_eq_true t6;have HZ:Hid (mayB m s=true):=Lib.hid (by rw [HV6.out];exact decide_eq_true ⟨t5,t6⟩);clear t5 t6;go_wp2_with fail;go_quiet (fail);go_wp2_with fail;go_ret;exact ⟨retB HZ.out.symm,bdrew HB1.out _⟩
                         · have e6:decide (s.claim < (t.locs.length:Int))=false:=decide_eq_false t6;have HZ:Hid (mayB m s=false):=Lib.hid (by rw [HV6.out];exact decide_eq_false (fun h=>t6 h.2));clear t5 t6;go_wp2_with fail;go_quiet (fail);go_wp2_with fail;go_ret;exact ⟨retB HZ.out.symm,bdrew HB1.out _⟩
                       · have e5:decide (0≤s.claim)=false:=decide_eq_false t5;have HZ:Hid (mayB m s=false):=Lib.hid (by rw [HV6.out];exact decide_eq_false (fun h=>t5 h.1));clear t5;go_wp2_with fail;go_quiet (fail);go_wp2_with fail;go_ret;exact ⟨retB HZ.out.symm,bdrew HB1.out _⟩
theorem good_head {m:ModelD} (h:goodB m=true):m.claim < m.procs.length∧ -1≤m.claim:=by
 unfold goodB checkL at h;rw [decide_eq_true_eq] at h;by_cases h3: (expressionsL m).2=true
 · unfold expressionsL at h3;split at h3
   · cases h3
   · rename_i hh
     unfold exprsHead at hh;rw [decide_eq_true_eq] at hh;omega
 · have h4: (expressionsL m).2=false:=by simpa using h3
   rw [if_pos h4] at h
   repeat' (split at h)
   all_goals (simp at h)
set_option maxRecDepth 100000 in
theorem isGoodC {B:Nat} {h:MH} {m:ModelD} (w:World) (hB:B≤w.heap.size) (hmd:MD B w h m):
 Calls Tryd.prog 13 #[mV h m] w fun e w'=>e= .returned (.bool (goodB m))∧Below w.heap.size w w':=by
 have HMD:=Lib.hid hmd;have HX:=Lib.hid (Bx.new w (mCells h m) 29);clear hmd;have HV:Hid (goodB m=decide ((checkL m).1=0)):=Lib.hid rfl;unfold mV;unfold mCells at HX ⊢;go_enter Tryd.func13,Tryd.ntmps13;go_wp2_with fail;refine (checkC (h:=h) (m:=m) _ (by have:=HX.out.bel.size;omega) (HMD.out.below (HX.out.bel.mono hB))).mono ?_;rintro e w2 ⟨rfl,hb2⟩;have HB2:=Lib.hid (HX.out.bel.trans (hb2.mono HX.out.bel.size));clear hb2;obtain ⟨r1,r2,r3,hr⟩:∃r1 r2 r3,checkL m= (r1,r2,r3):=⟨_,_,_,rfl⟩;rw [hr] at HV ⊢;clear hr;simp only at HV ⊢;by_cases h0:r1=0
 · have HZ:Hid (goodB m=true):=Lib.hid (by rw [HV.out];exact decide_eq_true h0);have hb: (r1 == 0)=true:=by rw [beq_iff_eq];exact h0
   clear h0;go_wp2_with fail;go_ret;exact ⟨retB HZ.out.symm,HB2.out⟩
 · have HZ:Hid (goodB m=false):=Lib.hid (by rw [HV.out];exact decide_eq_false h0);have hb: (r1 == 0)=false:=by rw [beq_eq_false_iff_ne];exact h0
   clear h0;go_wp2_with fail;go_ret;exact ⟨retB HZ.out.symm,HB2.out⟩
set_option maxRecDepth 100000 in
theorem stateCheckC {B:Nat} {h:MH} {hs:SH} {m:ModelD} {s:StateD} (w:World) (hB:B≤w.heap.size) (hmd:MD B w h m) (hsd:SD B w hs s):
 Calls Tryd.prog 11 #[mV h m,sV hs s] w fun e w'=>e= .returned (.int .i64 (stateE m s))∧Below w.heap.size w w':=by
 have HM0:Hid (((w.alloc (.cells (mCells h m) 29)).alloc (.cells (sCells hs s) 33)).heap[w.heap.size]? =some (.cells (mCells h m) 29 (0,0))):=Lib.hid ((Below.heap_alloc _ _ _ (by simp)).trans (heap_alloc_new _ _));have HS0:Hid (((w.alloc (.cells (mCells h m) 29)).alloc (.cells (sCells hs s) 33)).heap[w.heap.size+1]? =some (.cells (sCells hs s) 33 (0,0))):=Lib.hid (by
  have h:=heap_alloc_new (w.alloc (.cells (mCells h m) 29)) (.cells (sCells hs s) 33);rw [World.size_alloc] at h;exact h)
 have HB0:Hid (Below w.heap.size w ((w.alloc (.cells (mCells h m) 29)).alloc (.cells (sCells hs s) 33))):=Lib.hid (((Below.refl _ _).alloc (Nat.le_refl _) _).alloc (by simp) _);have HMD:=Lib.hid (hmd.below (HB0.out.mono hB));have HSD:=Lib.hid (hsd.below (HB0.out.mono hB));clear hmd hsd;have HV:Hid (stateE m s=if goodB m=true then (if mayB m s=true then 0 else 41) else 40):=Lib.hid rfl;unfold mV sV;unfold mCells sCells at HM0 HS0 HB0 HMD HSD ⊢;go_enter Tryd.func11,Tryd.ntmps11;go_wp2_with fail;generalize (w.alloc (.cells #[.slice h.go m.globals.length h.gc,.slice h.io m.init.length h.ic,.slice h.so m.shapes.length h.sc,.slice h.co m.chans.length h.cc,.slice h.po m.procs.length h.pc,.int .i64 m.claim,.slice h.eo m.exprs.length h.ec] 29)).alloc (.cells #[.slice hs.go s.globals.length hs.gc,.slice hs.co s.chans.length hs.cc,.slice hs.po s.procs.length hs.pc,.int .i64 s.last,.int .i64 s.alone,.int .i64 s.claim] 33)=W0 at HM0 HS0 HB0 HMD HSD ⊢;refine (isGoodC (h:=h) (m:=m) W0 (by have:=HB0.out.size;omega) HMD.out).mono ?_;rintro e W1 ⟨rfl,hb1⟩;have HB1:=Lib.hid (HB0.out.trans (hb1.mono HB0.out.size));have HM1:=Lib.hid ((hb1.block _ (lt_of_block HM0.out)).trans HM0.out);have HS1:=Lib.hid ((hb1.block _ (lt_of_block HS0.out)).trans HS0.out);have HMD1:=Lib.hid (HMD.out.below (hb1.mono (by have:=HB0.out.size;omega)));have HSD1:=Lib.hid (HSD.out.below (hb1.mono (by have:=HB0.out.size;omega)));clear hb1;obtain ⟨u,hu⟩:∃u,goodB m=u:=⟨_,rfl⟩;rw [hu];have HU:=Lib.hid hu;clear hu;cases u
 · have HZ:Hid (stateE m s=40):=Lib.hid (by rw [HV.out,HU.out];rfl);go_wp2_with fail;go_ret;exact ⟨retI HZ.out.symm,HB1.out⟩
 · have HCK:Hid (Ck B W1 w.heap.size h m):=Lib.hid ⟨(cell_of_row _ _ _ _ _ _ HM1.out).trans rfl,(cell_of_row _ _ _ _ _ _ HM1.out).trans rfl,(cell_of_row _ _ _ _ _ _ HM1.out).trans rfl,(cell_of_row _ _ _ _ _ _ HM1.out).trans rfl,(cell_of_row _ _ _ _ _ _ HM1.out).trans rfl,(cell_of_row _ _ _ _ _ _ HM1.out).trans rfl,(cell_of_row _ _ _ _ _ _ HM1.out).trans rfl,(by have:=lt_of_block HM1.out;omega),lt_of_block HM1.out,HMD1.out⟩;have HSK:Hid (Sk B W1 (w.heap.size+1) 0 hs s):=Lib.hid ⟨(cell_of_row _ _ _ _ _ _ HS1.out).trans rfl,(cell_of_row _ _ _ _ _ _ HS1.out).trans rfl,(cell_of_row _ _ _ _ _ _ HS1.out).trans rfl,(cell_of_row _ _ _ _ _ _ HS1.out).trans rfl,(cell_of_row _ _ _ _ _ _ HS1.out).trans rfl,(cell_of_row _ _ _ _ _ _ HS1.out).trans rfl,(by have:=lt_of_block HS1.out;omega),lt_of_block HS1.out,HSD1.out⟩;go_wp2_with fail;refine (mayC W1 HCK.out HSK.out (good_head HU.out).1).mono ?_;rintro e W2 ⟨rfl,hb2⟩;have HB2:=Lib.hid (HB1.out.trans (hb2.mono HB1.out.size));clear hb2;obtain ⟨u,hu⟩:∃u,mayB m s=u:=⟨_,rfl⟩;rw [hu];have HU2:=Lib.hid hu;clear hu;cases u
   · have HZ:Hid (stateE m s=41):=Lib.hid (by rw [HV.out,HU.out,HU2.out];rfl);go_wp2_with fail;go_ret;exact ⟨retI HZ.out.symm,HB2.out⟩
   · have HZ:Hid (stateE m s=0):=Lib.hid (by rw [HV.out,HU.out,HU2.out];rfl);go_wp2_with fail;go_ret;exact ⟨retI HZ.out.symm,HB2.out⟩
end Go.Proofs.YtnoibjahliafpaaDoor
