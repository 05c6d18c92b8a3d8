/- Which states may be. -/
import Derived.Test.YtnoibjahliafpaaGreatDoorM07
import Derived.Test.YtnoibjahliafpaaGreatDoorM16
set_option linter.unusedVariables false
set_option linter.unusedSimpArgs false
namespace Go.Proofs.YtnoibjahliafpaaGreatDoor
open Go.ChangeShapes Go.WideShapes Go.ChangeAt Go.RowKit
set_option maxHeartbeats 8000000 in
set_option maxRecDepth 100000 in
theorem mayC {B pm ps:Nat} {h:MH} {hs:SH} {m:ModelD} {s:StateD} (w:World) (hk:Ck B w pm h m) (hks:Sk B w ps 0 hs s) (hcl:m.claim < m.procs.length):
 Calls Tryz.prog 32 #[.pointer (some ⟨pm,0,none⟩),.pointer (some ⟨ps,0,none⟩)] w fun e w'=>e= .returned (.bool (mayB m s))∧Below w.heap.size w w':=by
 have HK:=Lib.hid hk;have HS:=Lib.hid hks;have hB:B≤w.heap.size:=by have:=hk.le;have:=hk.lt;omega
 have HKW:Hid (∀W,Below w.heap.size w W→Ck B W pm h m∧Sk B W ps 0 hs s):=Lib.hid fun W hb=>⟨HK.out.below hb,HS.out.below hb⟩
 have c0:=hk.c0;have s0:=hks.c0;have l1:=hks.sd.chans.1;have l2:=hks.sd.procs.1;have l3:=hk.md.procs.1;have HV:Hid (mayB m s= (fitsL m.globals s.globals && decide (s.chans.length≤32∧s.procs.length≤16) && s.chans.all (chanMayB m) && s.procs.all (procMayB m) && mayTailB m s)):=Lib.hid rfl;clear hk hks;go_enter Tryz.func32,Tryz.ntmps32;go_wp2_with fail;go_still_tail 8,(by kernel_rfl);change wpList _ _ _ _ _ w.drew;have HB2:Hid (Below w.heap.size w w.drew):=Lib.hid (Below.refl _ _).drew;generalize w.drew=W2 at HB2 ⊢;clear c0 s0;go_wp2_with fail;refine (sfitsC m.globals s.globals h.go hs.go h.gc hs.gc W2 (by have:=HB2.out.size;omega) (HKW.out _ HB2.out).1.md.globals (HKW.out _ HB2.out).2.sd.globals).mono ?_;rintro e W3 ⟨rfl,hb3⟩;have HB3:=Lib.hid (HB2.out.trans (hb3.mono HB2.out.size));clear hb3 HB2;obtain ⟨u,hu⟩:∃u,fitsL m.globals s.globals=u:=⟨_,rfl⟩;rw [hu];have HU:=Lib.hid hu;clear hu;cases u
 · have HZ:Hid (mayB m s=false):=Lib.hid (by rw [HV.out,HU.out];rfl);go_wp2_with fail;go_ret;exact ⟨retB HZ.out.symm,HB3.out⟩
 · have s1:W3.cell? ⟨ps,1,none⟩=some (.slice hs.co s.chans.length hs.cc):=by have:=(HKW.out _ HB3.out).2.c1;rwa [Nat.zero_add] at this
   have s2:W3.cell? ⟨ps,2,none⟩=some (.slice hs.po s.procs.length hs.pc):=by have:=(HKW.out _ HB3.out).2.c2;rwa [Nat.zero_add] at this
   by_cases n1:32 < s.chans.length
   · have d1:decide (32 < s.chans.length)=true:=decide_eq_true n1;have d1i:decide ((32:Int) < (s.chans.length:Int))=true:=decide_eq_true (by omega);have HZ:Hid (mayB m s=false):=Lib.hid (by rw [HV.out,decide_eq_false (p:=s.chans.length≤32∧s.procs.length≤16) (by omega)];simp);clear n1;go_wp2_with fail;go_ret;exact ⟨retB HZ.out.symm,HB3.out⟩
   · have d1:decide (32 < s.chans.length)=false:=decide_eq_false n1;have d1i:decide ((32:Int) < (s.chans.length:Int))=false:=decide_eq_false (by omega);by_cases n2:16 < s.procs.length
     · have d2:decide (16 < s.procs.length)=true:=decide_eq_true n2;have d2i:decide ((16:Int) < (s.procs.length:Int))=true:=decide_eq_true (by omega);have HZ:Hid (mayB m s=false):=Lib.hid (by rw [HV.out,decide_eq_false (p:=s.chans.length≤32∧s.procs.length≤16) (by omega)];simp);clear n1 n2;go_wp2_with fail;go_ret;exact ⟨retB HZ.out.symm,HB3.out⟩
     · have d2:decide (16 < s.procs.length)=false:=decide_eq_false n2;have d2i:decide ((16:Int) < (s.procs.length:Int))=false:=decide_eq_false (by omega);have HV2:Hid (mayB m s= (s.chans.all (chanMayB m) && s.procs.all (procMayB m) && mayTailB m s)):=Lib.hid (by rw [HV.out,HU.out,decide_eq_true (p:=s.chans.length≤32∧s.procs.length≤16) (by omega)];simp);clear n1 n2 HV HU;go_wp2_with fail;clear s1 s2 d1 d1i d2 d2i
       go_loopw [38] (fun iv W=>∃i:Nat,iv= .int .i64 i∧i≤s.chans.length∧Hid (∀j (hj:j < s.chans.length),j < i→chanMayB m s.chans[j]=true)∧Hid (Below w.heap.size w W)) (fun iv _=>s.chans.length - (intOf iv).toNat)
       case atStart=>exact ⟨0,rfl,by omega,Lib.hid fun j _ h=>by omega,HB3⟩
       case round=>
        clear HB3;obtain ⟨i,rfl,hi,HJ,HB⟩:=hrel;have hi0: (0:Int)≤i:=by omega
        by_cases hlt:i < s.chans.length
        · have hlti: (i:Int) < s.chans.length:=by omega
          obtain ⟨c,hc⟩:∃c,s.chans[i]? =some c:=⟨_,List.getElem?_eq_getElem hlt⟩;obtain ⟨g,off,hog,hg,hca⟩:=(HKW.out _ HB.out).2.sd.chans.get hc;have hce:s.chans[i]=c:=by obtain ⟨_,h⟩:=List.getElem?_eq_some_iff.1 hc;exact h
          have HBAD:Hid (chanMayB m c=false→mayB m s=false):=Lib.hid fun h=>by rw [HV2.out,all_bad hlt (by rw [hce];exact h)];rfl
          have HGO:Hid (chanMayB m c=true→∀j (hj:j < s.chans.length),j < i+1→chanMayB m s.chans[j]=true):=Lib.hid fun h j hj hjk=>by
           by_cases e:j=i
           · subst e;rw [hce];exact h
           · exact HJ.out j hj (by omega)
          have s1:wr.cell? ⟨ps,1,none⟩=some (.slice (some ⟨g,off,none⟩) s.chans.length hs.cc):=by have:=(HKW.out _ HB.out).2.c1;rw [Nat.zero_add,hog] at this;exact this
          have HCA:=Lib.hid hca;clear hc hog hca hce;go_wp2_with fail;clear s1;refine (chanMayC wr (HKW.out _ HB.out).1 HCA.out hg).mono ?_;rintro e W4 ⟨rfl,hb4⟩;have HB4:=Lib.hid (HB.out.trans (hb4.mono HB.out.size));clear hb4;obtain ⟨u,hu⟩:∃u,chanMayB m c=u:=⟨_,rfl⟩;rw [hu];have HU:=Lib.hid hu;clear hu;cases u
          · have HZ:=Lib.hid (HBAD.out HU.out);go_wp2_with fail;go_ret;exact ⟨retB HZ.out.symm,HB4.out⟩
          · have HZ:=Lib.hid (HGO.out HU.out);go_wp2_with fail;go_roundw;case rel=>exact ⟨i+1,by go_num,by omega,HZ,HB4⟩
            case measure=>simp [intOf];omega
        · have hlti:¬ (i:Int) < s.chans.length:=by omega
          have HV3:Hid (mayB m s= (s.procs.all (procMayB m) && mayTailB m s)):=Lib.hid (by rw [HV2.out,all_of fun j hj=>HJ.out j hj (by omega)];rfl);have s2:wr.cell? ⟨ps,2,none⟩=some (.slice hs.po s.procs.length hs.pc):=by have:=(HKW.out _ HB.out).2.c2;rwa [Nat.zero_add] at this
          clear HV2 HJ;go_wp2_with fail;clear s2
          go_loopw [56] (fun iv W=>∃i:Nat,iv= .int .i64 i∧i≤s.procs.length∧Hid (∀j (hj:j < s.procs.length),j < i→procMayB m s.procs[j]=true)∧Hid (Below w.heap.size w W)) (fun iv _=>s.procs.length - (intOf iv).toNat)
          case atStart=>exact ⟨0,rfl,by omega,Lib.hid fun j _ h=>by omega,HB⟩
          case round=>
           clear HB hlti hlt hi0 hi;obtain ⟨i,rfl,hi,HJ,HB⟩:=hrel;have hi0: (0:Int)≤i:=by omega
           by_cases hlt:i < s.procs.length
           · have hlti: (i:Int) < s.procs.length:=by omega
             obtain ⟨c,hc⟩:∃c,s.procs[i]? =some c:=⟨_,List.getElem?_eq_getElem hlt⟩;obtain ⟨g,off,hog,hg,hca⟩:=(HKW.out _ HB.out).2.sd.procs.get hc;have hce:s.procs[i]=c:=by obtain ⟨_,h⟩:=List.getElem?_eq_some_iff.1 hc;exact h
             have HBAD:Hid (procMayB m c=false→mayB m s=false):=Lib.hid fun h=>by rw [HV3.out,all_bad hlt (by rw [hce];exact h)];rfl
             have HGO:Hid (procMayB m c=true→∀j (hj:j < s.procs.length),j < i+1→procMayB m s.procs[j]=true):=Lib.hid fun h j hj hjk=>by
              by_cases e:j=i
              · subst e;rw [hce];exact h
              · exact HJ.out j hj (by omega)
             have s2:wr.cell? ⟨ps,2,none⟩=some (.slice (some ⟨g,off,none⟩) s.procs.length hs.pc):=by have:=(HKW.out _ HB.out).2.c2;rw [Nat.zero_add,hog] at this;exact this
             have HCA:=Lib.hid hca;clear hc hog hca hce;go_wp2_with fail;clear s2;refine (processMayC wr (HKW.out _ HB.out).1 HCA.out hg).mono ?_;rintro e W4 ⟨rfl,hb4⟩;have HB4:=Lib.hid (HB.out.trans (hb4.mono HB.out.size));clear hb4;obtain ⟨u,hu⟩:∃u,procMayB m c=u:=⟨_,rfl⟩;rw [hu];have HU:=Lib.hid hu;clear hu;cases u
             · have HZ:=Lib.hid (HBAD.out HU.out);go_wp2_with fail;go_ret;exact ⟨retB HZ.out.symm,HB4.out⟩
             · have HZ:=Lib.hid (HGO.out HU.out);go_wp2_with fail;go_roundw;case rel=>exact ⟨i+1,by go_num,by omega,HZ,HB4⟩
               case measure=>simp [intOf];omega
           · have hlti:¬ (i:Int) < s.procs.length:=by omega
             have HV4:Hid (mayB m s=mayTailB m s):=Lib.hid (by rw [HV3.out,all_of fun j hj=>HJ.out j hj (by omega)];rfl);have HCE:Hid (∀W,Below w.heap.size w W→W.cell? ⟨ps,2,none⟩=some (.slice hs.po s.procs.length hs.pc)∧W.cell? ⟨ps,3,none⟩=some (.int .i64 s.last)∧W.cell? ⟨ps,4,none⟩=some (.int .i64 s.alone)∧W.cell? ⟨ps,5,none⟩=some (.int .i64 s.claim)∧W.cell? ⟨pm,5,none⟩=some (.int .i64 m.claim)∧W.cell? ⟨pm,4,none⟩=some (.slice h.po m.procs.length h.pc)):=Lib.hid fun W hb=>by
              have h2:=(HKW.out W hb).2.c2;have h3:=(HKW.out W hb).2.c3;have h4:=(HKW.out W hb).2.c4;have h5:=(HKW.out W hb).2.c5;rw [Nat.zero_add] at h2 h3 h4 h5;exact ⟨h2,h3,h4,h5,(HKW.out W hb).1.c5,(HKW.out W hb).1.c4⟩
             clear HV3 HJ;obtain ⟨v2,v3,v4,v5,v6,v7⟩:=HCE.out _ HB.out;by_cases t0:s.last < 0
             · have e0:decide (s.last < 0)=true:=decide_eq_true t0;have HZ:Hid (mayB m s=false):=Lib.hid (by rw [HV4.out];unfold mayTailB;rw [decide_eq_false (p:=0≤s.last∧s.last < 16∧ -1≤s.alone∧s.alone < s.procs.length) (by omega)];rfl);clear t0;go_wp2_with fail;go_quiet (fail);go_wp2_with fail;go_ret;exact ⟨retB HZ.out.symm,bdrew HB.out _⟩
             · have e0:decide (s.last < 0)=false:=decide_eq_false t0;by_cases t1:16≤s.last
               · have e1:decide (16≤s.last)=true:=decide_eq_true t1;have HZ:Hid (mayB m s=false):=Lib.hid (by rw [HV4.out];unfold mayTailB;rw [decide_eq_false (p:=0≤s.last∧s.last < 16∧ -1≤s.alone∧s.alone < s.procs.length) (by omega)];rfl);clear t0 t1;go_wp2_with fail;go_quiet (fail);go_wp2_with fail;go_ret;exact ⟨retB HZ.out.symm,bdrew HB.out _⟩
               · have e1:decide (16≤s.last)=false:=decide_eq_false t1;by_cases t2:s.alone < -1
                 · have e2:decide (s.alone < -1)=true:=decide_eq_true t2;have HZ:Hid (mayB m s=false):=Lib.hid (by rw [HV4.out];unfold mayTailB;rw [decide_eq_false (p:=0≤s.last∧s.last < 16∧ -1≤s.alone∧s.alone < s.procs.length) (by omega)];rfl);clear t0 t1 t2;go_wp2_with fail;go_quiet (fail);go_wp2_with fail;go_ret;exact ⟨retB HZ.out.symm,bdrew HB.out _⟩
                 · have e2:decide (s.alone < -1)=false:=decide_eq_false t2;by_cases t3: (s.procs.length:Int)≤s.alone
                   · have e3:decide ((s.procs.length:Int)≤s.alone)=true:=decide_eq_true t3;have HZ:Hid (mayB m s=false):=Lib.hid (by rw [HV4.out];unfold mayTailB;rw [decide_eq_false (p:=0≤s.last∧s.last < 16∧ -1≤s.alone∧s.alone < s.procs.length) (by omega)];rfl);clear t0 t1 t2 t3;go_wp2_with fail;go_quiet (fail);go_wp2_with fail;go_ret;exact ⟨retB HZ.out.symm,bdrew HB.out _⟩
                   · have e3:decide ((s.procs.length:Int)≤s.alone)=false:=decide_eq_false t3;have HV5:Hid (mayB m s=if m.claim < 0 then decide (s.claim= -1) else decide (0≤s.claim∧s.claim < claimLocs m)):=Lib.hid (by rw [HV4.out];unfold mayTailB;rw [decide_eq_true (p:=0≤s.last∧s.last < 16∧ -1≤s.alone∧s.alone < s.procs.length) (by omega)];rfl);clear t0 t1 t2 t3;go_wp2_with fail;go_quiet (fail);have HB1:Hid (Below w.heap.size w (wr.drewN nq)):=Lib.hid (bdrew HB.out nq);generalize wr.drewN nq=W5 at HB1 ⊢;clear v2 v3 v4 v5 v6 v7 e0 e1 e2 e3;obtain ⟨v2,v3,v4,v5,v6,v7⟩:=HCE.out _ HB1.out;by_cases t4:m.claim < 0
                     · by_cases t5:s.claim= -1
                       · have e5: (s.claim == -1)=true:=by rw [beq_iff_eq];exact t5
                         have HZ:Hid (mayB m s=true):=Lib.hid (by rw [HV5.out,if_pos t4];exact decide_eq_true t5);clear t5;go_wp2_with fail;go_ret;exact ⟨retB HZ.out.symm,HB1.out⟩
                       · have e5: (s.claim == -1)=false:=by rw [beq_eq_false_iff_ne];exact t5
                         have HZ:Hid (mayB m s=false):=Lib.hid (by rw [HV5.out,if_pos t4];exact decide_eq_false t5);clear t5;go_wp2_with fail;go_ret;exact ⟨retB HZ.out.symm,HB1.out⟩
                     · obtain ⟨k,hk⟩:∃k:Nat,m.claim=k:=⟨m.claim.toNat,by omega⟩;have hkl:k < m.procs.length:=by omega
                       have hki: (k:Int) < m.procs.length:=by omega
                       have hkz: (0:Int)≤k:=by omega
                       have hkn:¬ (k:Int) < 0:=by omega
                       obtain ⟨t,ht⟩:∃t,m.procs[k]? =some t:=⟨_,List.getElem?_eq_getElem hkl⟩;obtain ⟨g3,off3,ho3,hg3,hpa⟩:=HK.out.md.procs.get ht;obtain ⟨lo,lc,r4,hlr⟩:=hpa.locs;have HL4:Hid (∀W,Below w.heap.size w W→W.cell? ⟨g3,off3+k*10+4,none⟩=some (.slice lo t.locs.length lc)):=Lib.hid fun W hb=>(hb.cell (by show g3 < _;omega)).trans r4
                       have r4:=HL4.out _ HB1.out;have hll:=hlr.1;have HV6:Hid (mayB m s=decide (0≤s.claim∧s.claim < t.locs.length)):=Lib.hid (by rw [HV5.out,if_neg t4];unfold claimLocs;rw [hk,Int.toNat_natCast,ht];rfl);rw [hk] at v6;rw [ho3] at v7;clear hk t4 ht ho3 hpa hlr HV5;by_cases t5:0≤s.claim
                       · have e5:decide (0≤s.claim)=true:=decide_eq_true t5;by_cases t6:s.claim < (t.locs.length:Int)
                         · have e6:decide (s.claim < (t.locs.length:Int))=true:=decide_eq_true t6;have HZ:Hid (mayB m s=true):=Lib.hid (by rw [HV6.out];exact decide_eq_true ⟨t5,t6⟩);clear t5 t6;go_wp2_with fail;go_quiet (fail);go_wp2_with fail;go_ret;exact ⟨retB HZ.out.symm,bdrew HB1.out _⟩
                         · have e6:decide (s.claim < (t.locs.length:Int))=false:=decide_eq_false t6;have HZ:Hid (mayB m s=false):=Lib.hid (by rw [HV6.out];exact decide_eq_false (fun h=>t6 h.2));clear t5 t6;go_wp2_with fail;go_quiet (fail);go_wp2_with fail;go_ret;exact ⟨retB HZ.out.symm,bdrew HB1.out _⟩
                       · have e5:decide (0≤s.claim)=false:=decide_eq_false t5;have HZ:Hid (mayB m s=false):=Lib.hid (by rw [HV6.out];exact decide_eq_false (fun h=>t5 h.1));clear t5;go_wp2_with fail;go_quiet (fail);go_wp2_with fail;go_ret;exact ⟨retB HZ.out.symm,bdrew HB1.out _⟩
theorem good_head {m:ModelD} (h:goodB m=true):m.claim < m.procs.length∧ -1≤m.claim:=by
 unfold goodB checkL at h;rw [decide_eq_true_eq] at h;by_cases h3: (expressionsL m).2=true
 · unfold expressionsL at h3;split at h3
   · cases h3
   · rename_i hh
     unfold exprsHead at hh;rw [decide_eq_true_eq] at hh;omega
 · have h4: (expressionsL m).2=false:=by simpa using h3
   rw [if_pos h4] at h
   repeat' (split at h)
   all_goals (simp at h)
set_option maxRecDepth 100000 in
theorem isGoodC {B:Nat} {h:MH} {m:ModelD} (w:World) (hB:B≤w.heap.size) (hmd:MD B w h m):
 Calls Tryz.prog 26 #[mV h m] w fun e w'=>e= .returned (.bool (goodB m))∧Below w.heap.size w w':=by
 have HMD:=Lib.hid hmd;have HX:=Lib.hid (Bx.new w (mCells h m) 29);clear hmd;have HV:Hid (goodB m=decide ((checkL m).1=0)):=Lib.hid rfl;unfold mV;unfold mCells at HX ⊢;go_enter Tryz.func26,Tryz.ntmps26;go_wp2_with fail;refine (checkC (h:=h) (m:=m) _ (by have:=HX.out.bel.size;omega) (HMD.out.below (HX.out.bel.mono hB))).mono ?_;rintro e w2 ⟨rfl,hb2⟩;have HB2:=Lib.hid (HX.out.bel.trans (hb2.mono HX.out.bel.size));clear hb2;obtain ⟨r1,r2,r3,hr⟩:∃r1 r2 r3,checkL m= (r1,r2,r3):=⟨_,_,_,rfl⟩;rw [hr] at HV ⊢;clear hr;simp only at HV ⊢;by_cases h0:r1=0
 · have HZ:Hid (goodB m=true):=Lib.hid (by rw [HV.out];exact decide_eq_true h0);have hb: (r1 == 0)=true:=by rw [beq_iff_eq];exact h0
   clear h0;go_wp2_with fail;go_ret;exact ⟨retB HZ.out.symm,HB2.out⟩
 · have HZ:Hid (goodB m=false):=Lib.hid (by rw [HV.out];exact decide_eq_false h0);have hb: (r1 == 0)=false:=by rw [beq_eq_false_iff_ne];exact h0
   clear h0;go_wp2_with fail;go_ret;exact ⟨retB HZ.out.symm,HB2.out⟩
set_option maxRecDepth 100000 in
theorem stateCheckC {B:Nat} {h:MH} {hs:SH} {m:ModelD} {s:StateD} (w:World) (hB:B≤w.heap.size) (hmd:MD B w h m) (hsd:SD B w hs s):
 Calls Tryz.prog 16 #[mV h m,sV hs s] w fun e w'=>e= .returned (.int .i64 (stateE m s))∧Below w.heap.size w w':=by
 have HM0:Hid (((w.alloc (.cells (mCells h m) 29)).alloc (.cells (sCells hs s) 34)).heap[w.heap.size]? =some (.cells (mCells h m) 29 (0,0))):=Lib.hid ((Below.heap_alloc _ _ _ (by simp)).trans (heap_alloc_new _ _));have HS0:Hid (((w.alloc (.cells (mCells h m) 29)).alloc (.cells (sCells hs s) 34)).heap[w.heap.size+1]? =some (.cells (sCells hs s) 34 (0,0))):=Lib.hid (by
  have h:=heap_alloc_new (w.alloc (.cells (mCells h m) 29)) (.cells (sCells hs s) 34);rw [World.size_alloc] at h;exact h)
 have HB0:Hid (Below w.heap.size w ((w.alloc (.cells (mCells h m) 29)).alloc (.cells (sCells hs s) 34))):=Lib.hid (((Below.refl _ _).alloc (Nat.le_refl _) _).alloc (by simp) _);have HMD:=Lib.hid (hmd.below (HB0.out.mono hB));have HSD:=Lib.hid (hsd.below (HB0.out.mono hB));clear hmd hsd;have HV:Hid (stateE m s=if goodB m=true then (if mayB m s=true then 0 else 41) else 40):=Lib.hid rfl;unfold mV sV;unfold mCells sCells at HM0 HS0 HB0 HMD HSD ⊢;go_enter Tryz.func16,Tryz.ntmps16;go_wp2_with fail;generalize (w.alloc (.cells #[.slice h.go m.globals.length h.gc,.slice h.io m.init.length h.ic,.slice h.so m.shapes.length h.sc,.slice h.co m.chans.length h.cc,.slice h.po m.procs.length h.pc,.int .i64 m.claim,.slice h.eo m.exprs.length h.ec] 29)).alloc (.cells #[.slice hs.go s.globals.length hs.gc,.slice hs.co s.chans.length hs.cc,.slice hs.po s.procs.length hs.pc,.int .i64 s.last,.int .i64 s.alone,.int .i64 s.claim] 34)=W0 at HM0 HS0 HB0 HMD HSD ⊢;refine (isGoodC (h:=h) (m:=m) W0 (by have:=HB0.out.size;omega) HMD.out).mono ?_;rintro e W1 ⟨rfl,hb1⟩;have HB1:=Lib.hid (HB0.out.trans (hb1.mono HB0.out.size));have HM1:=Lib.hid ((hb1.block _ (lt_of_block HM0.out)).trans HM0.out);have HS1:=Lib.hid ((hb1.block _ (lt_of_block HS0.out)).trans HS0.out);have HMD1:=Lib.hid (HMD.out.below (hb1.mono (by have:=HB0.out.size;omega)));have HSD1:=Lib.hid (HSD.out.below (hb1.mono (by have:=HB0.out.size;omega)));clear hb1;obtain ⟨u,hu⟩:∃u,goodB m=u:=⟨_,rfl⟩;rw [hu];have HU:=Lib.hid hu;clear hu;cases u
 · have HZ:Hid (stateE m s=40):=Lib.hid (by rw [HV.out,HU.out];rfl);go_wp2_with fail;go_ret;exact ⟨retI HZ.out.symm,HB1.out⟩
 · have HCK:Hid (Ck B W1 w.heap.size h m):=Lib.hid ⟨(cell_of_row _ _ _ _ _ _ HM1.out).trans rfl,(cell_of_row _ _ _ _ _ _ HM1.out).trans rfl,(cell_of_row _ _ _ _ _ _ HM1.out).trans rfl,(cell_of_row _ _ _ _ _ _ HM1.out).trans rfl,(cell_of_row _ _ _ _ _ _ HM1.out).trans rfl,(cell_of_row _ _ _ _ _ _ HM1.out).trans rfl,(cell_of_row _ _ _ _ _ _ HM1.out).trans rfl,(by have:=lt_of_block HM1.out;omega),lt_of_block HM1.out,HMD1.out⟩;have HSK:Hid (Sk B W1 (w.heap.size+1) 0 hs s):=Lib.hid ⟨(cell_of_row _ _ _ _ _ _ HS1.out).trans rfl,(cell_of_row _ _ _ _ _ _ HS1.out).trans rfl,(cell_of_row _ _ _ _ _ _ HS1.out).trans rfl,(cell_of_row _ _ _ _ _ _ HS1.out).trans rfl,(cell_of_row _ _ _ _ _ _ HS1.out).trans rfl,(cell_of_row _ _ _ _ _ _ HS1.out).trans rfl,(by have:=lt_of_block HS1.out;omega),lt_of_block HS1.out,HSD1.out⟩;go_wp2_with fail;refine (mayC W1 HCK.out HSK.out (good_head HU.out).1).mono ?_;rintro e W2 ⟨rfl,hb2⟩;have HB2:=Lib.hid (HB1.out.trans (hb2.mono HB1.out.size));clear hb2;obtain ⟨u,hu⟩:∃u,mayB m s=u:=⟨_,rfl⟩;rw [hu];have HU2:=Lib.hid hu;clear hu;cases u
   · have HZ:Hid (stateE m s=41):=Lib.hid (by rw [HV.out,HU.out,HU2.out];rfl);go_wp2_with fail;go_ret;exact ⟨retI HZ.out.symm,HB2.out⟩
   · have HZ:Hid (stateE m s=0):=Lib.hid (by rw [HV.out,HU.out,HU2.out];rfl);go_wp2_with fail;go_ret;exact ⟨retI HZ.out.symm,HB2.out⟩
end Go.Proofs.YtnoibjahliafpaaGreatDoor
namespace Go.Proofs.YtnoibjahliafpaaGreatDoor
open Go.ChangeShapes Go.WideShapes Go.ChangeAt Go.RowKit
structure RowS where
 e:TypeId
 size:Nat
 v:Value
 n:Nat
 xs:List Value
def rowNil:RowS:=⟨0,0,.slice none 0 0,0,[]⟩
def kG:Nat × Nat × Nat:=(0,0,0)
def kC:Nat × Nat × Nat:=(1,0,0)
def kP:Nat × Nat × Nat:=(2,0,0)
def kQ (i:Nat):Nat × Nat × Nat:=(3,i,0)
def kM (i j:Nat):Nat × Nat × Nat:=(4,i,j)
def kF (i:Nat):Nat × Nat × Nat:=(5,i,0)
structure Own (B:Nat) (w:World) (R:Nat × Nat × Nat→RowS):Prop where
 row:∀k,w.ownsRow B (R k).e (R k).size (R k).v (R k).n (R k).xs
 ne:∀k k',k≠k'→∀g,(R k).v.ownBlock=some g→ (R k').v.ownBlock≠some g
def upd (R:Nat × Nat × Nat→RowS) (k:Nat × Nat × Nat) (r:RowS):Nat × Nat × Nat→RowS:=fun q=>if q=k then r else R q
theorem upd_same (R:Nat × Nat × Nat→RowS) (k:Nat × Nat × Nat) (r:RowS):upd R k r k=r:=if_pos rfl
theorem upd_ne (R:Nat × Nat × Nat→RowS) {k q:Nat × Nat × Nat} (r:RowS) (h:q≠k):upd R k r q=R q:=if_neg h
theorem Own.nil (B:Nat) (w:World):Own B w (fun _=>rowNil):=⟨fun _=>World.ownsRow_nil _ _ _ _,fun _ _ _ g h=>by cases h⟩
theorem Own.below {B:Nat} {w w':World} {R:Nat × Nat × Nat→RowS} (h:Own B w R) (hb:Below w.heap.size w w'):Own B w' R:=⟨fun k=>owns_below (h.row k) hb,h.ne⟩
theorem Own.mono {B B':Nat} {w:World} {R:Nat × Nat × Nat→RowS} (h:Own B w R) (hB:B'≤B):Own B' w R:=⟨fun k=>Joins.ownsRow_le (h.row k) hB,h.ne⟩
theorem Own.put {B:Nat} {w w':World} {R:Nat × Nat × Nat→RowS} (h:Own B w R) (hB:B≤w.heap.size) (hb:Below w.heap.size w w') (k:Nat × Nat × Nat) (r:RowS) (hr:w'.ownsRow w.heap.size r.e r.size r.v r.n r.xs):Own B w' (upd R k r):=by
 refine ⟨fun q=> ?_,fun q q' hq g hg=> ?_⟩
 · by_cases e:q=k
   · rw [e,upd_same];exact Joins.ownsRow_le hr hB
   · rw [upd_ne R r e];exact owns_below (h.row q) hb
 · by_cases e:q=k
   · rw [e,upd_same] at hg;rw [upd_ne R r (fun e'=>hq (e.trans e'.symm))];intro h2;have:=((h.row q').lt g h2).2;have:=(hr.lt g hg).1;omega
   · rw [upd_ne R r e] at hg;by_cases e':q'=k
     · rw [e',upd_same];intro h2;have:=((h.row q).lt g hg).2;have:=(hr.lt g h2).1;omega
     · rw [upd_ne R r e'];exact h.ne q q' hq g hg
theorem Own.set {B:Nat} {w:World} {R:Nat × Nat × Nat→RowS} (h:Own B w R) (k:Nat × Nat × Nat) {g n c:Nat} (hv: (R k).v= .slice (some ⟨g,0,none⟩) n c) (hn: (R k).n=n) (j:Nat) (u:Value):Own B (w.setCell ⟨g,j,none⟩ u) (upd R k ⟨(R k).e,(R k).size,(R k).v,(R k).n,(R k).xs.set j u⟩):=by
 have hk:=h.row k;have hob: (R k).v.ownBlock=some g:=by rw [hv];rfl
 refine ⟨fun q=> ?_,fun q q' hq=> ?_⟩
 · by_cases e:q=k
   · rw [e,upd_same];simp only;rw [hv,hn] at hk ⊢;exact (hk.stored j u).1
   · rw [upd_ne R _ e];exact owns_set (h.row q) _ _ (fun h2=>h.ne k q (fun e2=>e e2.symm) g hob h2)
 · have key:∀q,(upd R k ⟨(R k).e,(R k).size,(R k).v,(R k).n,(R k).xs.set j u⟩ q).v= (R q).v:=fun q=>by
    by_cases e:q=k
    · rw [e,upd_same]
    · rw [upd_ne R _ e]
   rw [key,key];exact h.ne q q' hq
theorem Own.other {B:Nat} {w:World} {R:Nat × Nat × Nat→RowS} (h:Own B w R) (a:Addr) (u:Value) (hne:∀k,(R k).v.ownBlock≠some a.block):Own B (w.setCell a u) R:=⟨fun k=>owns_set (h.row k) _ _ (hne k),h.ne⟩
theorem Own.otherT {B:Nat} {w:World} {R:Nat × Nat × Nat→RowS} (h:Own B w R) {b:Nat} {cs:Array Value} {T:TypeId} {fr:Nat × Nat} (hb:w.heap[b]? =some (.cells cs T fr)) (hT:∀k,(R k).e≠T) (i:Nat) (u:Value):Own B (w.setCell ⟨b,i,none⟩ u) R:=
 h.other _ _ fun k=>owns_neObj (h.row k) hb (hT k)
theorem Own.low {B:Nat} {w:World} {R:Nat × Nat × Nat→RowS} (h:Own B w R) (a:Addr) (ha:a.block < B) (u:Value):Own B (w.setCell a u) R:=
 h.other _ _ fun k e=>by have:=((h.row k).lt _ e).1;omega
def intsV (l:List Int):List Value:=l.map (.int .i64)
def sl (o:Option Addr) (n c:Nat):Value:= .slice o n c
def IsInts (r:RowS) (l:List Int):Prop:=∃o c,r= ⟨2,1,.slice o l.length c,l.length,intsV l⟩
def IsMsgs (R:Nat × Nat × Nat→RowS) (i:Nat) (q:List (List Int)):Prop:=∃o c xs,R (kQ i)= ⟨76,1,.slice o q.length c,q.length,xs⟩∧∀j (hj:j < q.length),xs[j]? =some (R (kM i j)).v∧IsInts (R (kM i j)) q[j]
def IsChans (R:Nat × Nat × Nat→RowS) (o:Option Addr) (c:Nat) (l:List ChanD):Prop:=∃xs,R kC= ⟨66,2,.slice o l.length c,l.length,xs⟩∧∀i (hi:i < l.length),xs[i*2]? =some (.int .i64 l[i].shape)∧xs[i*2+1]? =some (R (kQ i)).v∧IsMsgs R i l[i].queue
def IsProcs (R:Nat × Nat × Nat→RowS) (o:Option Addr) (c:Nat) (l:List ProcessD):Prop:=∃xs,R kP= ⟨39,4,.slice o l.length c,l.length,xs⟩∧∀i (hi:i < l.length),xs[i*4]? =some (.int .i64 l[i].type)∧xs[i*4+1]? =some (.int .i64 l[i].loc)∧xs[i*4+2]? =some (.int .i64 l[i].prio)∧xs[i*4+3]? =some (R (kF i)).v∧IsInts (R (kF i)) l[i].frame
structure Spl (R:Nat × Nat × Nat→RowS) (h:SH) (s:StateD):Prop where
 g:R kG= ⟨2,1,.slice h.go s.globals.length h.gc,s.globals.length,intsV s.globals⟩
 c:IsChans R h.co h.cc s.chans
 p:IsProcs R h.po h.pc s.procs
structure Lens (s:StateD):Prop where
 g:s.globals.length≤140737488355328
 c:s.chans.length≤140737488355328
 p:s.procs.length≤140737488355328
 q:∀x ∈ s.chans,x.queue.length≤140737488355328∧∀y ∈ x.queue,y.length≤140737488355328
 f:∀x ∈ s.procs,x.frame.length≤140737488355328
theorem Row.lenW {α:Type} {B:Nat} {o:Option Addr} {k:Nat} {R:Nat→Nat→α→Prop} {l:List α} (h:Row B o k R l):l.length≤140737488355328:=h.1
theorem SD.lens {B:Nat} {w:World} {h:SH} {s:StateD} (d:SD B w h s):Lens s:=by
 refine ⟨d.globals.1,d.chans.1,d.procs.1,fun x hx=> ?_,fun x hx=> ?_⟩
 · obtain ⟨i,hi⟩:=List.mem_iff_getElem?.1 hx;obtain ⟨g,off,-,-,hc⟩:=d.chans.get hi;obtain ⟨o,c,-,hr⟩:=hc.queue;refine ⟨hr.1,fun y hy=> ?_⟩;obtain ⟨j,hj⟩:=List.mem_iff_getElem?.1 hy;obtain ⟨g2,off2,-,-,o2,c2,-,hr2⟩:=hr.get hj;exact hr2.1
 · obtain ⟨i,hi⟩:=List.mem_iff_getElem?.1 hx;obtain ⟨g,off,-,-,hc⟩:=d.procs.get hi;obtain ⟨o,c,-,hr⟩:=hc.frame;exact hr.1
theorem owns_row {w:World} {B size n:Nat} {e:TypeId} {o:Option Addr} {c:Nat} {xs:List Value} (h:w.ownsRow B e size (.slice o n c) n xs):n=0∨∃g,o=some ⟨g,0,none⟩∧B≤g∧g < w.heap.size∧∀j,j < n*size→w.cell? ⟨g,j,none⟩=xs[j]? :=by
 rcases Joins.ownsRow_forms h with ⟨-,h2⟩ | ⟨g,cap,hv⟩
 · exact .inl h2
 · injection hv with e1 e2 e3
   subst e1 e3;obtain ⟨h3,h4⟩:=h.lt g rfl;exact .inr ⟨g,rfl,h3,h4,fun j hj=>h.cellAt j hj⟩
theorem IsInts.row {w:World} {B:Nat} {r:RowS} {l:List Int} (h:IsInts r l) (hl:l.length≤140737488355328) (ho:w.ownsRow B r.e r.size r.v r.n r.xs):∃o c,r.v= .slice o l.length c∧Row w.heap.size o 1 (intAt w) l:=by
 obtain ⟨o,c,rfl⟩:=h;dsimp only at ho;refine ⟨o,c,rfl,hl, ?_⟩;rcases owns_row ho with h0 | ⟨g,rfl,-,hg,hc⟩
 · exact .inl h0
 · refine .inr ⟨g,0,rfl,hg,fun i hi=> ?_⟩;have:=hc i (by omega);unfold intAt;rw [show 0+i*1=i from by omega,this];simp [intsV,hi]
theorem Spl.sd {B:Nat} {w:World} {R:Nat × Nat × Nat→RowS} {h:SH} {s:StateD} (hs:Spl R h s) (ho:Own B w R) (hl:Lens s):SD w.heap.size w h s:=by
 refine ⟨?_, ?_, ?_⟩
 · obtain ⟨o,c,h1,h2⟩:=IsInts.row (w:=w) ⟨_,_,hs.g⟩ hl.g (ho.row kG);rw [hs.g] at h1;injection h1 with e1 _ _
   rw [e1];exact h2
 · obtain ⟨xs,hx,hi⟩:=hs.c;have hr:=ho.row kC;rw [hx] at hr;dsimp only at hr;refine ⟨hl.c, ?_⟩;rcases owns_row hr with h0 | ⟨g,e,-,hg,hc⟩
   · exact .inl h0
   · refine .inr ⟨g,0,e,hg,fun i hi'=> ?_⟩;obtain ⟨x0,x1,o,c,ys,hq,hm⟩:=hi i hi';have hlq:=hl.q s.chans[i] (List.getElem_mem hi');refine ⟨?_,o,c, ?_,hlq.1, ?_⟩
     · rw [←x0,←hc (i*2) (by omega)];congr 2;omega
     · rw [hq] at x1;rw [←x1,←hc (i*2+1) (by omega)];congr 2;omega
     · have hr2:=ho.row (kQ i);rw [hq] at hr2;dsimp only at hr2;rcases owns_row hr2 with h0 | ⟨g2,e2,-,hg2,hc2⟩
       · exact .inl h0
       · refine .inr ⟨g2,0,e2,hg2,fun j hj=> ?_⟩;obtain ⟨y0,y1⟩:=hm j hj;obtain ⟨o3,c3,h3,h4⟩:=y1.row (hlq.2 _ (List.getElem_mem hj)) (ho.row (kM i j));refine ⟨o3,c3, ?_,h4⟩;rw [←h3,←y0,←hc2 j (by omega)];congr 2;omega
 · obtain ⟨xs,hx,hi⟩:=hs.p;have hr:=ho.row kP;rw [hx] at hr;dsimp only at hr;refine ⟨hl.p, ?_⟩;rcases owns_row hr with h0 | ⟨g,e,-,hg,hc⟩
   · exact .inl h0
   · refine .inr ⟨g,0,e,hg,fun i hi'=> ?_⟩;obtain ⟨x0,x1,x2,x3,x4⟩:=hi i hi';obtain ⟨o3,c3,h3,h4⟩:=x4.row (hl.f _ (List.getElem_mem hi')) (ho.row (kF i));rw [h3] at x3;refine ⟨?_, ?_, ?_,o3,c3, ?_,h4⟩
     · rw [←x0,←hc (i*4) (by omega)];congr 2;omega
     · rw [←x1,←hc (i*4+1) (by omega)];congr 2;omega
     · rw [←x2,←hc (i*4+2) (by omega)];congr 2;omega
     · rw [←x3,←hc (i*4+3) (by omega)];congr 2;omega
def SO (B:Nat) (w:World) (h:SH) (s:StateD):Prop:=∃R,Own B w R∧Spl R h s
theorem SO.below {B:Nat} {w w':World} {h:SH} {s:StateD} (o:SO B w h s) (hb:Below w.heap.size w w'):SO B w' h s:=by
 obtain ⟨R,h1,h2⟩:=o;exact ⟨R,h1.below hb,h2⟩
theorem SO.sd {B:Nat} {w:World} {h:SH} {s:StateD} (o:SO B w h s) (hl:Lens s):SD w.heap.size w h s:=by
 obtain ⟨R,h1,h2⟩:=o;exact h2.sd h1 hl
end Go.Proofs.YtnoibjahliafpaaGreatDoor
