/- Which states may be. -/
import Derived.Test.YthfldokfnjpkmaaGreatDoorM02
import Derived.Test.YthfldokfnjpkmaaGreatDoorM12
import Derived.Laws.BitsLemmas
import Derived.RowKit
import Derived.WalkKit
import Derived.Scope
import Derived.WalkMore
set_option linter.unusedVariables false
set_option linter.unusedSimpArgs false
namespace Go.Proofs.YthfldokfnjpkmaaGreatDoor
open Go.ChangeShapes Go.WideShapes Go.ChangeAt Go.RowKit
set_option maxHeartbeats 8000000 in
set_option maxRecDepth 100000 in
theorem mayC {B pm ps:Nat} {h:MH} {hs:SH} {m:ModelD} {s:StateD} (w:World) (hk:Ck B w pm h m) (hks:Sk B w ps 0 hs s) (hcl:m.claim < m.procs.length):
 Calls Tryz.prog 58 #[.pointer (some ⟨pm,0,none⟩),.pointer (some ⟨ps,0,none⟩)] w fun e w'=>e= .returned (.bool (mayB m s))∧Below w.heap.size w w':=by
 have HK:=Lib.hid hk;have HS:=Lib.hid hks;have hB:B≤w.heap.size:=by have:=hk.le;have:=hk.lt;omega
 have HKW:Hid (∀W,Below w.heap.size w W→Ck B W pm h m∧Sk B W ps 0 hs s):=Lib.hid fun W hb=>⟨HK.out.below hb,HS.out.below hb⟩
 have c0:=hk.c0;have s0:=hks.c0;have l1:=hks.sd.chans.1;have l2:=hks.sd.procs.1;have l3:=hk.md.procs.1;have HV:Hid (mayB m s= (fitsL m.globals s.globals && decide (s.chans.length≤32∧s.procs.length≤16) && s.chans.all (chanMayB m) && s.procs.all (procMayB m) && mayTailB m s)):=Lib.hid rfl;clear hk hks;go_enter Tryz.func58,Tryz.ntmps58;go_wp2_with fail;go_still_tail 8,(by kernel_rfl);change wpList _ _ _ _ _ w.drew;have HB2:Hid (Below w.heap.size w w.drew):=Lib.hid (Below.refl _ _).drew;generalize w.drew=W2 at HB2 ⊢;clear c0 s0;go_wp2_with fail;refine (sfitsC m.globals s.globals h.go hs.go h.gc hs.gc W2 (by have:=HB2.out.size;omega) (HKW.out _ HB2.out).1.md.globals (HKW.out _ HB2.out).2.sd.globals).mono ?_;rintro e W3 ⟨rfl,hb3⟩;have HB3:=Lib.hid (HB2.out.trans (hb3.mono HB2.out.size));clear hb3 HB2;obtain ⟨u,hu⟩:∃u,fitsL m.globals s.globals=u:=⟨_,rfl⟩;rw [hu];have HU:=Lib.hid hu;clear hu;cases u
 · have HZ:Hid (mayB m s=false):=Lib.hid (by rw [HV.out,HU.out];rfl);go_wp2_with fail;go_ret;exact ⟨retB HZ.out.symm,HB3.out⟩
 · have s1:W3.cell? ⟨ps,1,none⟩=some (.slice hs.co s.chans.length hs.cc):=by have:=(HKW.out _ HB3.out).2.c1;rwa [Nat.zero_add] at this
   have s2:W3.cell? ⟨ps,2,none⟩=some (.slice hs.po s.procs.length hs.pc):=by have:=(HKW.out _ HB3.out).2.c2;rwa [Nat.zero_add] at this
   by_cases n1:32 < s.chans.length
   · have d1:decide (32 < s.chans.length)=true:=decide_eq_true n1;have d1i:decide ((32:Int) < (s.chans.length:Int))=true:=decide_eq_true (by omega);have HZ:Hid (mayB m s=false):=Lib.hid (by rw [HV.out,decide_eq_false (p:=s.chans.length≤32∧s.procs.length≤16) (by omega)];simp);clear n1;go_wp2_with fail;go_ret;exact ⟨retB HZ.out.symm,HB3.out⟩
   · have d1:decide (32 < s.chans.length)=false:=decide_eq_false n1;have d1i:decide ((32:Int) < (s.chans.length:Int))=false:=decide_eq_false (by omega);by_cases n2:16 < s.procs.length
     · have d2:decide (16 < s.procs.length)=true:=decide_eq_true n2;have d2i:decide ((16:Int) < (s.procs.length:Int))=true:=decide_eq_true (by omega);have HZ:Hid (mayB m s=false):=Lib.hid (by rw [HV.out,decide_eq_false (p:=s.chans.length≤32∧s.procs.length≤16) (by omega)];simp);clear n1 n2;go_wp2_with fail;go_ret;exact ⟨retB HZ.out.symm,HB3.out⟩
     · have d2:decide (16 < s.procs.length)=false:=decide_eq_false n2;have d2i:decide ((16:Int) < (s.procs.length:Int))=false:=decide_eq_false (by omega);have HV2:Hid (mayB m s= (s.chans.all (chanMayB m) && s.procs.all (procMayB m) && mayTailB m s)):=Lib.hid (by rw [HV.out,HU.out,decide_eq_true (p:=s.chans.length≤32∧s.procs.length≤16) (by omega)];simp);clear n1 n2 HV HU;go_wp2_with fail;clear s1 s2 d1 d1i d2 d2i
       go_loopw [38] (fun iv W=>∃i:Nat,iv= .int .i64 i∧i≤s.chans.length∧Hid (∀j (hj:j < s.chans.length),j < i→chanMayB m s.chans[j]=true)∧Hid (Below w.heap.size w W)) (fun iv _=>s.chans.length - (intOf iv).toNat)
       case atStart=>exact ⟨0,rfl,by omega,Lib.hid fun j _ h=>by omega,HB3⟩
       case round=>
        clear HB3;obtain ⟨i,rfl,hi,HJ,HB⟩:=hrel;have hi0: (0:Int)≤i:=by omega
        by_cases hlt:i < s.chans.length
        · have hlti: (i:Int) < s.chans.length:=by omega
          obtain ⟨c,hc⟩:∃c,s.chans[i]? =some c:=⟨_,List.getElem?_eq_getElem hlt⟩;obtain ⟨g,off,hog,hg,hca⟩:=(HKW.out _ HB.out).2.sd.chans.get hc;have hce:s.chans[i]=c:=by obtain ⟨_,h⟩:=List.getElem?_eq_some_iff.1 hc;exact h
          have HBAD:Hid (chanMayB m c=false→mayB m s=false):=Lib.hid fun h=>by rw [HV2.out,all_bad hlt (by rw [hce];exact h)];rfl
          have HGO:Hid (chanMayB m c=true→∀j (hj:j < s.chans.length),j < i+1→chanMayB m s.chans[j]=true):=Lib.hid fun h j hj hjk=>by
           by_cases e:j=i
           · subst e;rw [hce];exact h
           · exact HJ.out j hj (by omega)
          have s1:wr.cell? ⟨ps,1,none⟩=some (.slice (some ⟨g,off,none⟩) s.chans.length hs.cc):=by have:=(HKW.out _ HB.out).2.c1;rw [Nat.zero_add,hog] at this;exact this
          have HCA:=Lib.hid hca;clear hc hog hca hce;go_wp2_with fail;clear s1;refine (chanMayC wr (HKW.out _ HB.out).1 HCA.out hg).mono ?_;rintro e W4 ⟨rfl,hb4⟩;have HB4:=Lib.hid (HB.out.trans (hb4.mono HB.out.size));clear hb4;obtain ⟨u,hu⟩:∃u,chanMayB m c=u:=⟨_,rfl⟩;rw [hu];have HU:=Lib.hid hu;clear hu;cases u
          · have HZ:=Lib.hid (HBAD.out HU.out);go_wp2_with fail;go_ret;exact ⟨retB HZ.out.symm,HB4.out⟩
          · have HZ:=Lib.hid (HGO.out HU.out);go_wp2_with fail;go_roundw;case rel=>exact ⟨i+1,by go_num,by omega,HZ,HB4⟩
            case measure=>simp [intOf];omega
        · have hlti:¬ (i:Int) < s.chans.length:=by omega
          have HV3:Hid (mayB m s= (s.procs.all (procMayB m) && mayTailB m s)):=Lib.hid (by rw [HV2.out,all_of fun j hj=>HJ.out j hj (by omega)];rfl);have s2:wr.cell? ⟨ps,2,none⟩=some (.slice hs.po s.procs.length hs.pc):=by have:=(HKW.out _ HB.out).2.c2;rwa [Nat.zero_add] at this
          clear HV2 HJ;go_wp2_with fail;clear s2
          go_loopw [56] (fun iv W=>∃i:Nat,iv= .int .i64 i∧i≤s.procs.length∧Hid (∀j (hj:j < s.procs.length),j < i→procMayB m s.procs[j]=true)∧Hid (Below w.heap.size w W)) (fun iv _=>s.procs.length - (intOf iv).toNat)
          case atStart=>exact ⟨0,rfl,by omega,Lib.hid fun j _ h=>by omega,HB⟩
          case round=>
           clear HB hlti hlt hi0 hi;obtain ⟨i,rfl,hi,HJ,HB⟩:=hrel;have hi0: (0:Int)≤i:=by omega
           by_cases hlt:i < s.procs.length
           · have hlti: (i:Int) < s.procs.length:=by omega
             obtain ⟨c,hc⟩:∃c,s.procs[i]? =some c:=⟨_,List.getElem?_eq_getElem hlt⟩;obtain ⟨g,off,hog,hg,hca⟩:=(HKW.out _ HB.out).2.sd.procs.get hc;have hce:s.procs[i]=c:=by obtain ⟨_,h⟩:=List.getElem?_eq_some_iff.1 hc;exact h
             have HBAD:Hid (procMayB m c=false→mayB m s=false):=Lib.hid fun h=>by rw [HV3.out,all_bad hlt (by rw [hce];exact h)];rfl
             have HGO:Hid (procMayB m c=true→∀j (hj:j < s.procs.length),j < i+1→procMayB m s.procs[j]=true):=Lib.hid fun h j hj hjk=>by
              by_cases e:j=i
              · subst e;rw [hce];exact h
              · exact HJ.out j hj (by omega)
             have s2:wr.cell? ⟨ps,2,none⟩=some (.slice (some ⟨g,off,none⟩) s.procs.length hs.pc):=by have:=(HKW.out _ HB.out).2.c2;rw [Nat.zero_add,hog] at this;exact this
             have HCA:=Lib.hid hca;clear hc hog hca hce;go_wp2_with fail;clear s2;refine (processMayC wr (HKW.out _ HB.out).1 HCA.out hg).mono ?_;rintro e W4 ⟨rfl,hb4⟩;have HB4:=Lib.hid (HB.out.trans (hb4.mono HB.out.size));clear hb4;obtain ⟨u,hu⟩:∃u,procMayB m c=u:=⟨_,rfl⟩;rw [hu];have HU:=Lib.hid hu;clear hu;cases u
             · have HZ:=Lib.hid (HBAD.out HU.out);go_wp2_with fail;go_ret;exact ⟨retB HZ.out.symm,HB4.out⟩
             · have HZ:=Lib.hid (HGO.out HU.out);go_wp2_with fail;go_roundw;case rel=>exact ⟨i+1,by go_num,by omega,HZ,HB4⟩
               case measure=>simp [intOf];omega
           · have hlti:¬ (i:Int) < s.procs.length:=by omega
             have HV4:Hid (mayB m s=mayTailB m s):=Lib.hid (by rw [HV3.out,all_of fun j hj=>HJ.out j hj (by omega)];rfl);have HCE:Hid (∀W,Below w.heap.size w W→W.cell? ⟨ps,2,none⟩=some (.slice hs.po s.procs.length hs.pc)∧W.cell? ⟨ps,3,none⟩=some (.int .i64 s.last)∧W.cell? ⟨ps,4,none⟩=some (.int .i64 s.alone)∧W.cell? ⟨ps,5,none⟩=some (.int .i64 s.claim)∧W.cell? ⟨pm,5,none⟩=some (.int .i64 m.claim)∧W.cell? ⟨pm,4,none⟩=some (.slice h.po m.procs.length h.pc)):=Lib.hid fun W hb=>by
              have h2:=(HKW.out W hb).2.c2;have h3:=(HKW.out W hb).2.c3;have h4:=(HKW.out W hb).2.c4;have h5:=(HKW.out W hb).2.c5;rw [Nat.zero_add] at h2 h3 h4 h5;exact ⟨h2,h3,h4,h5,(HKW.out W hb).1.c5,(HKW.out W hb).1.c4⟩
             clear HV3 HJ;obtain ⟨v2,v3,v4,v5,v6,v7⟩:=HCE.out _ HB.out;by_cases t0:s.last < 0
             · have e0:decide (s.last < 0)=true:=decide_eq_true t0;have HZ:Hid (mayB m s=false):=Lib.hid (by rw [HV4.out];unfold mayTailB;rw [decide_eq_false (p:=0≤s.last∧s.last < 16∧ -1≤s.alone∧s.alone < s.procs.length) (by omega)];rfl);clear t0;go_wp2_with fail;go_quiet (fail);go_wp2_with fail;go_ret;exact ⟨retB HZ.out.symm,bdrew HB.out _⟩
             · have e0:decide (s.last < 0)=false:=decide_eq_false t0;by_cases t1:16≤s.last
               · have e1:decide (16≤s.last)=true:=decide_eq_true t1;have HZ:Hid (mayB m s=false):=Lib.hid (by rw [HV4.out];unfold mayTailB;rw [decide_eq_false (p:=0≤s.last∧s.last < 16∧ -1≤s.alone∧s.alone < s.procs.length) (by omega)];rfl);clear t0 t1;go_wp2_with fail;go_quiet (fail);go_wp2_with fail;go_ret;exact ⟨retB HZ.out.symm,bdrew HB.out _⟩
               · have e1:decide (16≤s.last)=false:=decide_eq_false t1;by_cases t2:s.alone < -1
                 · have e2:decide (s.alone < -1)=true:=decide_eq_true t2;have HZ:Hid (mayB m s=false):=Lib.hid (by rw [HV4.out];unfold mayTailB;rw [decide_eq_false (p:=0≤s.last∧s.last < 16∧ -1≤s.alone∧s.alone < s.procs.length) (by omega)];rfl);clear t0 t1 t2;go_wp2_with fail;go_quiet (fail);go_wp2_with fail;go_ret;exact ⟨retB HZ.out.symm,bdrew HB.out _⟩
                 · have e2:decide (s.alone < -1)=false:=decide_eq_false t2;by_cases t3: (s.procs.length:Int)≤s.alone
                   · have e3:decide ((s.procs.length:Int)≤s.alone)=true:=decide_eq_true t3;have HZ:Hid (mayB m s=false):=Lib.hid (by rw [HV4.out];unfold mayTailB;rw [decide_eq_false (p:=0≤s.last∧s.last < 16∧ -1≤s.alone∧s.alone < s.procs.length) (by omega)];rfl);clear t0 t1 t2 t3;go_wp2_with fail;go_quiet (fail);go_wp2_with fail;go_ret;exact ⟨retB HZ.out.symm,bdrew HB.out _⟩
                   · have e3:decide ((s.procs.length:Int)≤s.alone)=false:=decide_eq_false t3;have HV5:Hid (mayB m s=if m.claim < 0 then decide (s.claim= -1) else decide (0≤s.claim∧s.claim < claimLocs m)):=Lib.hid (by rw [HV4.out];unfold mayTailB;rw [decide_eq_true (p:=0≤s.last∧s.last < 16∧ -1≤s.alone∧s.alone < s.procs.length) (by omega)];rfl);clear t0 t1 t2 t3;go_wp2_with fail;go_quiet (fail);have HB1:Hid (Below w.heap.size w (wr.drewN nq)):=Lib.hid (bdrew HB.out nq);generalize wr.drewN nq=W5 at HB1 ⊢;clear v2 v3 v4 v5 v6 v7 e0 e1 e2 e3;obtain ⟨v2,v3,v4,v5,v6,v7⟩:=HCE.out _ HB1.out;by_cases t4:m.claim < 0
                     · by_cases t5:s.claim= -1
                       · have e5: (s.claim == -1)=true:=by rw [beq_iff_eq];exact t5
                         have HZ:Hid (mayB m s=true):=Lib.hid (by rw [HV5.out,if_pos t4];exact decide_eq_true t5);clear t5;go_wp2_with fail;go_ret;exact ⟨retB HZ.out.symm,HB1.out⟩
                       · have e5: (s.claim == -1)=false:=by rw [beq_eq_false_iff_ne];exact t5
                         have HZ:Hid (mayB m s=false):=Lib.hid (by rw [HV5.out,if_pos t4];exact decide_eq_false t5);clear t5;go_wp2_with fail;go_ret;exact ⟨retB HZ.out.symm,HB1.out⟩
                     · obtain ⟨k,hk⟩:∃k:Nat,m.claim=k:=⟨m.claim.toNat,by omega⟩;have hkl:k < m.procs.length:=by omega
                       have hki: (k:Int) < m.procs.length:=by omega
                       have hkz: (0:Int)≤k:=by omega
                       have hkn:¬ (k:Int) < 0:=by omega
                       obtain ⟨t,ht⟩:∃t,m.procs[k]? =some t:=⟨_,List.getElem?_eq_getElem hkl⟩;obtain ⟨g3,off3,ho3,hg3,hpa⟩:=HK.out.md.procs.get ht;obtain ⟨lo,lc,r4,hlr⟩:=hpa.locs;have HL4:Hid (∀W,Below w.heap.size w W→W.cell? ⟨g3,off3+k*10+4,none⟩=some (.slice lo t.locs.length lc)):=Lib.hid fun W hb=>(hb.cell (by show g3 < _;omega)).trans r4
                       have r4:=HL4.out _ HB1.out;have hll:=hlr.1;have HV6:Hid (mayB m s=decide (0≤s.claim∧s.claim < t.locs.length)):=Lib.hid (by rw [HV5.out,if_neg t4];unfold claimLocs;rw [hk,Int.toNat_natCast,ht];rfl);rw [hk] at v6;rw [ho3] at v7;clear hk t4 ht ho3 hpa hlr HV5;by_cases t5:0≤s.claim
                       · have e5:decide (0≤s.claim)=true:=decide_eq_true t5;by_cases t6:s.claim < (t.locs.length:Int)
                         · have e6:decide (s.claim < (t.locs.length:Int))=true:=decide_eq_true t6;have HZ:Hid (mayB m s=true):=Lib.hid (by rw [HV6.out];exact decide_eq_true ⟨t5,t6⟩);clear t5 t6;go_wp2_with fail;go_quiet (fail);go_wp2_with fail;go_ret;exact ⟨retB HZ.out.symm,bdrew HB1.out _⟩
                         · have e6:decide (s.claim < (t.locs.length:Int))=false:=decide_eq_false t6;have HZ:Hid (mayB m s=false):=Lib.hid (by rw [HV6.out];exact decide_eq_false (fun h=>t6 h.2));clear t5 t6;go_wp2_with fail;go_quiet (fail);go_wp2_with fail;go_ret;exact ⟨retB HZ.out.symm,bdrew HB1.out _⟩
                       · have e5:decide (0≤s.claim)=false:=decide_eq_false t5;have HZ:Hid (mayB m s=false):=Lib.hid (by rw [HV6.out];exact decide_eq_false (fun h=>t5 h.1));clear t5;go_wp2_with fail;go_quiet (fail);go_wp2_with fail;go_ret;exact ⟨retB HZ.out.symm,bdrew HB1.out _⟩
theorem good_head {m:ModelD} (h:goodB m=true):m.claim < m.procs.length∧ -1≤m.claim:=by
 unfold goodB checkL at h;rw [decide_eq_true_eq] at h;by_cases h3: (expressionsL m).2=true
 · unfold expressionsL at h3;split at h3
   · cases h3
   · rename_i hh
     unfold exprsHead at hh;rw [decide_eq_true_eq] at hh;omega
 · have h4: (expressionsL m).2=false:=by simpa using h3
   rw [if_pos h4] at h
   repeat' (split at h)
   all_goals (simp at h)
set_option maxRecDepth 100000 in
theorem isGoodC {B:Nat} {h:MH} {m:ModelD} (w:World) (hB:B≤w.heap.size) (hmd:MD B w h m):
 Calls Tryz.prog 57 #[mV h m] w fun e w'=>e= .returned (.bool (goodB m))∧Below w.heap.size w w':=by
 have HMD:=Lib.hid hmd;have HX:=Lib.hid (Bx.new w (mCells h m) 29);clear hmd;have HV:Hid (goodB m=decide ((checkL m).1=0)):=Lib.hid rfl;unfold mV;unfold mCells at HX ⊢;go_enter Tryz.func57,Tryz.ntmps57;go_wp2_with fail;refine (checkC (h:=h) (m:=m) _ (by have:=HX.out.bel.size;omega) (HMD.out.below (HX.out.bel.mono hB))).mono ?_;rintro e w2 ⟨rfl,hb2⟩;have HB2:=Lib.hid (HX.out.bel.trans (hb2.mono HX.out.bel.size));clear hb2;obtain ⟨r1,r2,r3,hr⟩:∃r1 r2 r3,checkL m= (r1,r2,r3):=⟨_,_,_,rfl⟩;rw [hr] at HV ⊢;clear hr;simp only at HV ⊢;by_cases h0:r1=0
 · have HZ:Hid (goodB m=true):=Lib.hid (by rw [HV.out];exact decide_eq_true h0);have hb: (r1 == 0)=true:=by rw [beq_iff_eq];exact h0
   clear h0;go_wp2_with fail;go_ret;exact ⟨retB HZ.out.symm,HB2.out⟩
 · have HZ:Hid (goodB m=false):=Lib.hid (by rw [HV.out];exact decide_eq_false h0);have hb: (r1 == 0)=false:=by rw [beq_eq_false_iff_ne];exact h0
   clear h0;go_wp2_with fail;go_ret;exact ⟨retB HZ.out.symm,HB2.out⟩
set_option maxRecDepth 100000 in
theorem stateCheckC {B:Nat} {h:MH} {hs:SH} {m:ModelD} {s:StateD} (w:World) (hB:B≤w.heap.size) (hmd:MD B w h m) (hsd:SD B w hs s):
 Calls Tryz.prog 34 #[mV h m,sV hs s] w fun e w'=>e= .returned (.int .i64 (stateE m s))∧Below w.heap.size w w':=by
 have HM0:Hid (((w.alloc (.cells (mCells h m) 29)).alloc (.cells (sCells hs s) 33)).heap[w.heap.size]? =some (.cells (mCells h m) 29 (0,0))):=Lib.hid ((Below.heap_alloc _ _ _ (by simp)).trans (heap_alloc_new _ _));have HS0:Hid (((w.alloc (.cells (mCells h m) 29)).alloc (.cells (sCells hs s) 33)).heap[w.heap.size+1]? =some (.cells (sCells hs s) 33 (0,0))):=Lib.hid (by
  have h:=heap_alloc_new (w.alloc (.cells (mCells h m) 29)) (.cells (sCells hs s) 33);rw [World.size_alloc] at h;exact h)
 have HB0:Hid (Below w.heap.size w ((w.alloc (.cells (mCells h m) 29)).alloc (.cells (sCells hs s) 33))):=Lib.hid (((Below.refl _ _).alloc (Nat.le_refl _) _).alloc (by simp) _);have HMD:=Lib.hid (hmd.below (HB0.out.mono hB));have HSD:=Lib.hid (hsd.below (HB0.out.mono hB));clear hmd hsd;have HV:Hid (stateE m s=if goodB m=true then (if mayB m s=true then 0 else 41) else 40):=Lib.hid rfl;unfold mV sV;unfold mCells sCells at HM0 HS0 HB0 HMD HSD ⊢;go_enter Tryz.func34,Tryz.ntmps34;go_wp2_with fail;generalize (w.alloc (.cells #[.slice h.go m.globals.length h.gc,.slice h.io m.init.length h.ic,.slice h.so m.shapes.length h.sc,.slice h.co m.chans.length h.cc,.slice h.po m.procs.length h.pc,.int .i64 m.claim,.slice h.eo m.exprs.length h.ec] 29)).alloc (.cells #[.slice hs.go s.globals.length hs.gc,.slice hs.co s.chans.length hs.cc,.slice hs.po s.procs.length hs.pc,.int .i64 s.last,.int .i64 s.alone,.int .i64 s.claim] 33)=W0 at HM0 HS0 HB0 HMD HSD ⊢;refine (isGoodC (h:=h) (m:=m) W0 (by have:=HB0.out.size;omega) HMD.out).mono ?_;rintro e W1 ⟨rfl,hb1⟩;have HB1:=Lib.hid (HB0.out.trans (hb1.mono HB0.out.size));have HM1:=Lib.hid ((hb1.block _ (lt_of_block HM0.out)).trans HM0.out);have HS1:=Lib.hid ((hb1.block _ (lt_of_block HS0.out)).trans HS0.out);have HMD1:=Lib.hid (HMD.out.below (hb1.mono (by have:=HB0.out.size;omega)));have HSD1:=Lib.hid (HSD.out.below (hb1.mono (by have:=HB0.out.size;omega)));clear hb1;obtain ⟨u,hu⟩:∃u,goodB m=u:=⟨_,rfl⟩;rw [hu];have HU:=Lib.hid hu;clear hu;cases u
 · have HZ:Hid (stateE m s=40):=Lib.hid (by rw [HV.out,HU.out];rfl);go_wp2_with fail;go_ret;exact ⟨retI HZ.out.symm,HB1.out⟩
 · have HCK:Hid (Ck B W1 w.heap.size h m):=Lib.hid ⟨(cell_of_row _ _ _ _ _ _ HM1.out).trans rfl,(cell_of_row _ _ _ _ _ _ HM1.out).trans rfl,(cell_of_row _ _ _ _ _ _ HM1.out).trans rfl,(cell_of_row _ _ _ _ _ _ HM1.out).trans rfl,(cell_of_row _ _ _ _ _ _ HM1.out).trans rfl,(cell_of_row _ _ _ _ _ _ HM1.out).trans rfl,(cell_of_row _ _ _ _ _ _ HM1.out).trans rfl,(by have:=lt_of_block HM1.out;omega),lt_of_block HM1.out,HMD1.out⟩;have HSK:Hid (Sk B W1 (w.heap.size+1) 0 hs s):=Lib.hid ⟨(cell_of_row _ _ _ _ _ _ HS1.out).trans rfl,(cell_of_row _ _ _ _ _ _ HS1.out).trans rfl,(cell_of_row _ _ _ _ _ _ HS1.out).trans rfl,(cell_of_row _ _ _ _ _ _ HS1.out).trans rfl,(cell_of_row _ _ _ _ _ _ HS1.out).trans rfl,(cell_of_row _ _ _ _ _ _ HS1.out).trans rfl,(by have:=lt_of_block HS1.out;omega),lt_of_block HS1.out,HSD1.out⟩;go_wp2_with fail;refine (mayC W1 HCK.out HSK.out (good_head HU.out).1).mono ?_;rintro e W2 ⟨rfl,hb2⟩;have HB2:=Lib.hid (HB1.out.trans (hb2.mono HB1.out.size));clear hb2;obtain ⟨u,hu⟩:∃u,mayB m s=u:=⟨_,rfl⟩;rw [hu];have HU2:=Lib.hid hu;clear hu;cases u
   · have HZ:Hid (stateE m s=41):=Lib.hid (by rw [HV.out,HU.out,HU2.out];rfl);go_wp2_with fail;go_ret;exact ⟨retI HZ.out.symm,HB2.out⟩
   · have HZ:Hid (stateE m s=0):=Lib.hid (by rw [HV.out,HU.out,HU2.out];rfl);go_wp2_with fail;go_ret;exact ⟨retI HZ.out.symm,HB2.out⟩
end Go.Proofs.YthfldokfnjpkmaaGreatDoor
namespace Go.Proofs.YthfldokfnjpkmaaGreatDoor.val
open Go.RowKit
def fitI (b:Int) (s:Bool) (v:Int):Int:=
 if b < 1∨32 < b then 0 else
 if s=true∧2 ^ (b.toNat - 1)≤v % 2 ^ b.toNat then v % 2 ^ b.toNat - 2 ^ b.toNat else v % 2 ^ b.toNat
theorem pows (b:Int) (h1:1≤b) (h2:b≤32):∃H:Int,(2:Int) ^ (b.toNat - 1)=H∧ (2:Int) ^ b.toNat=2*H∧1≤H∧H≤2147483648:=by
 have h:b=1∨b=2∨b=3∨b=4∨b=5∨b=6∨b=7∨b=8∨b=9∨b=10∨b=11∨b=12∨b=13∨b=14∨b=15∨b=16∨b=17∨b=18∨b=19∨b=20∨b=21∨b=22∨b=23∨b=24∨b=25∨b=26∨b=27∨b=28∨b=29∨b=30∨b=31∨b=32:=by omega
 refine ⟨_,rfl, ?_⟩;rcases h with h | h | h | h | h | h | h | h | h | h | h | h | h | h | h | h | h | h | h | h | h | h | h | h | h | h | h | h | h | h | h | h <;> subst h <;> decide
theorem bits_low (n:Nat) (hn:n≤32) (v:Int):bits .and .i64 v (2 ^ n - 1)=v % 2 ^ n:=by
 have hpos:0 < 2 ^ n:=Nat.two_pow_pos n;have hle:2 ^ n≤2 ^ 32:=Nat.pow_le_pow_right (by decide) hn;have hc: ((2:Int) ^ n - 1)= ((2 ^ n - 1:Nat):Int):=by
  rw [Int.natCast_sub hpos];simp
 have hd: ((2 ^ n:Nat):Int) ∣ ((18446744073709551616:Nat):Int):=by
  refine Int.natCast_dvd_natCast.2 ?_;exact ⟨2 ^ (64 - n),by rw [←Nat.pow_add];rw [show n+ (64 - n)=64 from by omega]⟩
 have e1: (BitVec.ofInt 64 v).toNat= (v % 18446744073709551616).toNat:=BitVec.toNat_ofInt v;have e2: (2 ^ n - 1) % 18446744073709551616=2 ^ n - 1:=Nat.mod_eq_of_lt (by omega);have e3: (((v % 18446744073709551616).toNat % 2 ^ n:Nat):Int)=v % 2 ^ n:=by
  rw [Int.natCast_emod,Int.toNat_of_nonneg (Int.emod_nonneg _ (by decide))];have:=Int.emod_emod_of_dvd v hd;simpa using this
 have hb: (0:Int)≤v % 2 ^ n:=Int.emod_nonneg _ (by have : (0:Int) < 2 ^ n:=by exact_mod_cast hpos
                                                   omega)
 have hb2:v % 2 ^ n < 4294967296:=by
  have h3: (0:Int) < 2 ^ n:=by exact_mod_cast hpos
  have h4:=Int.emod_lt_of_pos v h3;have h5: (2:Int) ^ n≤4294967296:=by (have h:=Int.ofNat_le.2 hle;rw [Int.natCast_pow] at h;exact h)
  omega
 have e4: (BitVec.ofInt 64 ((2 ^ n - 1:Nat):Int)).toNat=2 ^ n - 1:=by rw [BitVec.ofInt_natCast,BitVec.toNat_ofNat];exact e2
 rw [hc];show IntKind.i64.wrap ((BitVec.ofInt 64 v &&& BitVec.ofInt 64 ((2 ^ n - 1:Nat):Int)).toNat:Int)=_;rw [BitVec.toNat_and,e1,e4,Nat.and_two_pow_sub_one_eq_mod,e3,IntKind.wrap_i64];omega
theorem fit_32 (v:Int):fitI 32 true v=wrap32 v:=by
 unfold fitI wrap32;simp;split <;> omega
theorem fit_fit (b:Int) (s:Bool) (v:Int):fitI b s (fitI b s v)=fitI b s v:=by
 unfold fitI;by_cases h:b < 1∨32 < b
 · simp [h]
 · obtain ⟨H,h1,h2,h3,h4⟩:=pows b (by omega) (by omega);rw [if_neg h,if_neg h];simp only [h1,h2];have p1:=Int.emod_nonneg v (show (2*H:Int)≠0 by omega);have p2:=Int.emod_lt_of_pos v (show (0:Int) < 2*H by omega);have e1:v % (2*H) % (2*H)=v % (2*H):=Int.emod_emod_of_dvd v (Int.dvd_refl _);have e2: (v % (2*H) - 2*H) % (2*H)=v % (2*H):=by rw [Int.sub_emod_right,e1]
   split
   · rename_i hh
     rw [e2,if_pos hh]
   · rename_i hh
     rw [e1,if_neg hh]
theorem fit_range (b:Int) (s:Bool) (v:Int): -2147483648≤fitI b s v∧fitI b s v≤4294967295:=by
 unfold fitI;by_cases h:b < 1∨32 < b
 · simp [h]
 · obtain ⟨H,h1,h2,h3,h4⟩:=pows b (by omega) (by omega);rw [if_neg h];simp only [h1,h2];have p1:=Int.emod_nonneg v (show (2*H:Int)≠0 by omega);have p2:=Int.emod_lt_of_pos v (show (0:Int) < 2*H by omega);split <;> omega
theorem wrap32_range (v:Int): -2147483648≤wrap32 v∧wrap32 v≤2147483647:=by
 unfold wrap32;omega
def shI (a p:Int):Int:=if 32≤p then 0 else if 0≤p then a*2 ^ p.toNat else a / 2 ^ (-p).toNat
theorem shr_any (yk:IntKind) (x y:Int) (hx: -2147483648≤x) (hx':x≤2147483647) (hy:0≤y):
 Op.shift .shr .i64 x yk y=pure (.int .i64 (x / 2 ^ y.toNat)):=by
 by_cases h:y≤64
 · exact shift_shr .i64 yk x y hy (by simp [IntKind.bits];omega)
 · have hm:min y.toNat 64=64:=by omega
   have hk: (IntKind.bits .i64)=64:=rfl;have big: (18446744073709551616:Int)≤2 ^ y.toNat:=by
    have h1:2 ^ 64≤2 ^ y.toNat:=Nat.pow_le_pow_right (by decide) (by omega);have h2:=Int.ofNat_le.2 h1;rw [Int.natCast_pow] at h2;exact h2
   have e:x / 2 ^ y.toNat=x / 18446744073709551616:=by
    by_cases hs:0≤x
    · rw [Int.ediv_eq_zero_of_lt hs (by omega),Int.ediv_eq_zero_of_lt hs (by omega)]
    · rw [Int.ediv_eq_neg_one_of_neg_of_le (by omega) (by omega),Int.ediv_eq_neg_one_of_neg_of_le (by omega) (by omega)]
   have hf:Int.fdiv x (2 ^ 64)=x / 18446744073709551616:=Int.fdiv_eq_ediv_of_nonneg _ (by decide);have hn:¬y < 0:=by omega
   simp only [Op.shift,hk,hm,e,hf,if_neg hn]
end Go.Proofs.YthfldokfnjpkmaaGreatDoor.val
namespace Go.Proofs.YthfldokfnjpkmaaGreatDoor.val
open Go.RowKit
def b2i (c:Bool):Int:=if c then 1 else 0
def two (op a b:Int):Int × Int:=
 if op=6 then (wrap32 (wrap32 a*wrap32 b),0) else
 if op=7 then (if wrap32 b=0 then (0,48) else (wrap32 ((wrap32 a).tdiv (wrap32 b)),0)) else
 if op=8 then (if wrap32 b=0 then (0,48) else ((wrap32 a).tmod (wrap32 b),0)) else
 if op=9 then (wrap32 (wrap32 a+wrap32 b),0) else
 if op=10 then (wrap32 (wrap32 a - wrap32 b),0) else
 if op=11 then (wrap32 (shI (wrap32 a) (wrap32 b)),0) else
 if op=12 then (wrap32 (shI (wrap32 a) (- wrap32 b)),0) else
 if op=13 then (b2i (decide (wrap32 a < wrap32 b)),0) else
 if op=14 then (b2i (decide (wrap32 a≤wrap32 b)),0) else
 if op=15 then (b2i (decide (wrap32 b < wrap32 a)),0) else
 if op=16 then (b2i (decide (wrap32 b≤wrap32 a)),0) else
 if op=17 then (b2i (wrap32 a == wrap32 b),0) else
 if op=18 then (b2i (wrap32 a != wrap32 b),0) else
 if op=19 then (bits .and .i64 (wrap32 a) (wrap32 b),0) else
 if op=20 then (bits .xor .i64 (wrap32 a) (wrap32 b),0) else
 if op=21 then (bits .or .i64 (wrap32 a) (wrap32 b),0) else (0,42)
theorem two_6 (a b:Int):two 6 a b= (wrap32 (wrap32 a*wrap32 b),0):=rfl
theorem two_7z (a b:Int) (h:wrap32 b=0):two 7 a b= (0,48):=by show (if wrap32 b=0 then _ else _)=_;rw [if_pos h]
theorem two_7 (a b:Int) (h:¬wrap32 b=0):two 7 a b= (wrap32 ((wrap32 a).tdiv (wrap32 b)),0):=by show (if wrap32 b=0 then _ else _)=_;rw [if_neg h]
theorem two_8z (a b:Int) (h:wrap32 b=0):two 8 a b= (0,48):=by show (if wrap32 b=0 then _ else _)=_;rw [if_pos h]
theorem two_8 (a b:Int) (h:¬wrap32 b=0):two 8 a b= ((wrap32 a).tmod (wrap32 b),0):=by show (if wrap32 b=0 then _ else _)=_;rw [if_neg h]
theorem two_9 (a b:Int):two 9 a b= (wrap32 (wrap32 a+wrap32 b),0):=rfl
theorem two_10 (a b:Int):two 10 a b= (wrap32 (wrap32 a - wrap32 b),0):=rfl
theorem two_11 (a b:Int):two 11 a b= (wrap32 (shI (wrap32 a) (wrap32 b)),0):=rfl
theorem two_12 (a b:Int):two 12 a b= (wrap32 (shI (wrap32 a) (- wrap32 b)),0):=rfl
theorem two_13 (a b:Int):two 13 a b= (b2i (decide (wrap32 a < wrap32 b)),0):=rfl
theorem two_14 (a b:Int):two 14 a b= (b2i (decide (wrap32 a≤wrap32 b)),0):=rfl
theorem two_15 (a b:Int):two 15 a b= (b2i (decide (wrap32 b < wrap32 a)),0):=rfl
theorem two_16 (a b:Int):two 16 a b= (b2i (decide (wrap32 b≤wrap32 a)),0):=rfl
theorem two_17 (a b:Int):two 17 a b= (b2i (wrap32 a == wrap32 b),0):=rfl
theorem two_18 (a b:Int):two 18 a b= (b2i (wrap32 a != wrap32 b),0):=rfl
theorem two_19 (a b:Int):two 19 a b= (bits .and .i64 (wrap32 a) (wrap32 b),0):=rfl
theorem two_20 (a b:Int):two 20 a b= (bits .xor .i64 (wrap32 a) (wrap32 b),0):=rfl
theorem two_21 (a b:Int):two 21 a b= (bits .or .i64 (wrap32 a) (wrap32 b),0):=rfl
theorem two_else (op a b:Int) (h:op < 6∨21 < op):two op a b= (0,42):=by
 unfold two
 repeat (rw [if_neg (by omega)])
theorem ofInt_sign (a:Int) (h: -2147483648≤a∧a≤2147483647):BitVec.ofInt 64 a= (BitVec.ofInt 32 a).signExtend 64:=by
 have h1: (BitVec.ofInt 32 a).toInt=a:=by
  rw [BitVec.toInt_ofInt];exact Int.bmod_eq_of_le (by omega) (by omega)
 unfold BitVec.signExtend;rw [h1]
theorem wrap_toInt (x:BitVec 64):IntKind.i64.wrap (x.toNat:Int)=x.toInt:=by
 rw [IntKind.wrap_i64,BitVec.toInt_eq_toNat_cond];have:=x.isLt;split <;> omega
theorem toInt_range (x:BitVec 32): -2147483648≤ (x.signExtend 64).toInt∧ (x.signExtend 64).toInt≤2147483647:=by
 rw [BitVec.toInt_signExtend_of_le (by decide)];have h1:=BitVec.le_toInt x;have h2:=BitVec.toInt_lt (x:=x);simp at h1 h2;omega
theorem and_range (a b:Int) (ha: -2147483648≤a∧a≤2147483647) (hb: -2147483648≤b∧b≤2147483647):
 -2147483648≤bits .and .i64 a b∧bits .and .i64 a b≤2147483647:=by
 have :bits .and .i64 a b= ((BitVec.ofInt 32 a &&& BitVec.ofInt 32 b).signExtend 64).toInt:=by
  rw [BitVec.signExtend_and,←ofInt_sign a ha,←ofInt_sign b hb];exact wrap_toInt _
 rw [this];exact toInt_range _
theorem or_range (a b:Int) (ha: -2147483648≤a∧a≤2147483647) (hb: -2147483648≤b∧b≤2147483647):
 -2147483648≤bits .or .i64 a b∧bits .or .i64 a b≤2147483647:=by
 have :bits .or .i64 a b= ((BitVec.ofInt 32 a ||| BitVec.ofInt 32 b).signExtend 64).toInt:=by
  rw [BitVec.signExtend_or,←ofInt_sign a ha,←ofInt_sign b hb];exact wrap_toInt _
 rw [this];exact toInt_range _
theorem xor_range (a b:Int) (ha: -2147483648≤a∧a≤2147483647) (hb: -2147483648≤b∧b≤2147483647):
 -2147483648≤bits .xor .i64 a b∧bits .xor .i64 a b≤2147483647:=by
 have :bits .xor .i64 a b= ((BitVec.ofInt 32 a ^^^ BitVec.ofInt 32 b).signExtend 64).toInt:=by
  rw [BitVec.signExtend_xor,←ofInt_sign a ha,←ofInt_sign b hb];exact wrap_toInt _
 rw [this];exact toInt_range _
theorem wrap32_in (v:Int) (h: -2147483648≤v∧v≤2147483647):wrap32 v=v:=by unfold wrap32;omega
theorem tmod_range (a b:Int) (hb: -2147483648≤b∧b≤2147483647) (h0:¬b=0):
 -2147483648≤a.tmod b∧a.tmod b≤2147483647:=by
 have h1:=Int.natAbs_tmod a b;have h2:a.natAbs % b.natAbs < b.natAbs:=Nat.mod_lt _ (by omega);omega
theorem tdiv_range (a b:Int) (ha: -2147483648≤a∧a≤2147483647):
 -2147483648≤a.tdiv b∧a.tdiv b≤2147483648:=by
 have h1: (a.tdiv b).natAbs=a.natAbs / b.natAbs:=Int.natAbs_tdiv a b;have h2:=Nat.div_le_self a.natAbs b.natAbs;omega
theorem mul_range (a b:Int) (ha: -2147483648≤a∧a≤2147483647) (hb: -2147483648≤b∧b≤2147483647):
 -4611686018427387904≤a*b∧a*b≤4611686018427387904:=by
 have h1:=Int.natAbs_mul a b;have h2:a.natAbs*b.natAbs≤2147483648*2147483648:=Nat.mul_le_mul (by omega) (by omega);omega
theorem sh_range (a p:Int) (ha: -2147483648≤a∧a≤2147483647):
 -4611686018427387904≤shI a p∧shI a p≤4611686018427387904:=by
 unfold shI;split
 · omega
 · split
   · obtain ⟨H,h1,_,h3,h4⟩:=pows (p+1) (by omega) (by omega);rw [show (p+1).toNat - 1=p.toNat from by omega] at h1;rw [h1];have hn:0≤H:=by omega
     constructor
     · have:=Int.mul_le_mul_of_nonneg_right ha.1 hn;omega
     · have:=Int.mul_le_mul_of_nonneg_right ha.2 hn;omega
   · generalize (-p).toNat=n;have hp: (0:Int) < 2 ^ n:=Int.pow_pos (by decide);generalize (2:Int) ^ n=M at*;constructor
     · have:=Int.le_ediv_of_mul_le hp (show (-2147483648:Int)*M≤a by
        have:=Int.mul_le_mul_of_nonneg_left (show (1:Int)≤M by omega) (show (0:Int)≤2147483648 by decide);omega)
       omega
     · have:=Int.ediv_le_of_le_mul hp (show a≤2147483647*M by
        have:=Int.mul_le_mul_of_nonneg_left (show (1:Int)≤M by omega) (show (0:Int)≤2147483647 by decide);omega)
       omega
theorem flip_is (a:Int) (ha: -2147483648≤a∧a≤2147483647):bits .xor .i64 (-1) a= - a - 1:=by
 have h1: (BitVec.ofInt 64 (-1) ^^^ BitVec.ofInt 64 a)= ~~~ (BitVec.ofInt 64 a):=by
  rw [show BitVec.ofInt 64 (-1)=BitVec.allOnes 64 from by decide,BitVec.allOnes_xor]
 have h2:bits .xor .i64 (-1) a= (~~~ (BitVec.ofInt 64 a)).toInt:=by rw [←h1];exact wrap_toInt _
 have h3: (BitVec.ofInt 64 a).toInt=a:=by
  rw [BitVec.toInt_ofInt];exact Int.bmod_eq_of_le (by omega) (by omega)
 have h4:=BitVec.toInt_eq_toNat_cond (BitVec.ofInt 64 a);have h5:=BitVec.toInt_eq_toNat_cond (~~~ (BitVec.ofInt 64 a));have h6: (~~~ (BitVec.ofInt 64 a)).toNat=18446744073709551616 - 1 - (BitVec.ofInt 64 a).toNat:=BitVec.toNat_not;have h7:=(BitVec.ofInt 64 a).isLt;rw [h2,h5,h6];rw [h3] at h4;generalize (BitVec.ofInt 64 a).toNat=n at*;split <;> split at h4 <;> omega
def one (op a:Int):Int × Int:=
 if op=3 then (wrap32 (- wrap32 a),0) else if op=4 then (b2i (wrap32 a == 0),0) else if op=5 then (- wrap32 a - 1,0) else (0,42)
theorem one_3 (a:Int):one 3 a= (wrap32 (- wrap32 a),0):=rfl
theorem one_4 (a:Int):one 4 a= (b2i (wrap32 a == 0),0):=rfl
theorem one_5 (a:Int):one 5 a= (- wrap32 a - 1,0):=rfl
theorem one_else (op a:Int) (h:op < 3∨5 < op):one op a= (0,42):=by
 unfold one;rw [if_neg (by omega),if_neg (by omega),if_neg (by omega)]
theorem wrap32_congr (a b k:Int) (h:a=b+k*4294967296):wrap32 a=wrap32 b:=by unfold wrap32;omega
theorem shl_step (a:Int) (k:Nat):wrap32 (2*wrap32 (a*2 ^ k))=wrap32 (a*2 ^ (k+1)):=by
 have e:a*2 ^ (k+1)=2* (a*2 ^ k):=by rw [Int.pow_succ];rw [←Int.mul_assoc,Int.mul_comm]
 rw [e];generalize a*2 ^ k=x;unfold wrap32;omega
theorem shl_zero (a:Int) (k j:Nat) (h:wrap32 (a*2 ^ k)=0) (hj:k≤j):wrap32 (a*2 ^ j)=0:=by
 obtain ⟨d,rfl⟩:∃d,j=k+d:=⟨j - k,by omega⟩;rw [Int.pow_add,←Int.mul_assoc];generalize a*2 ^ k=x at*;obtain ⟨m,rfl⟩:∃m,x=m*4294967296:=⟨x / 4294967296,by unfold wrap32 at h;omega⟩;rw [Int.mul_right_comm];rw [wrap32_congr (m*2 ^ d*4294967296) 0 (m*2 ^ d) (by omega)];exact wrap32_in 0 (by decide)
theorem shl_great (a:Int) (j:Nat) (hj:32≤j):wrap32 (a*2 ^ j)=0:=
 shl_zero a 32 j (by rw [wrap32_congr (a*2 ^ 32) 0 a (by simp)];exact wrap32_in 0 (by decide)) hj
theorem sh_left (a p:Int) (h:0≤p):wrap32 (shI a p)=wrap32 (a*2 ^ p.toNat):=by
 unfold shI;split
 · rw [shl_great a _ (by omega)];exact wrap32_in 0 (by decide)
 · rfl
theorem shr_step (a:Int) (k:Nat):a / 2 ^ (k+1)=a / 2 ^ k / 2:=by
 rw [Int.pow_succ,Int.ediv_ediv_of_nonneg];exact Int.pow_nonneg (by decide)
theorem shr_stays (a:Int) (k j:Nat) (hk:a / 2 ^ k=0∨a / 2 ^ k= -1) (hj:k≤j):a / 2 ^ j=a / 2 ^ k:=by
 obtain ⟨d,rfl⟩:∃d,j=k+d:=⟨j - k,by omega⟩;clear hj
 induction d with
 | zero=>rfl
 | succ d ih=>
   rw [←Nat.add_assoc,shr_step,ih];omega
theorem half (x:Int): (x < 0→ (x - 1).tdiv 2=x / 2)∧ (0≤x→x.tdiv 2=x / 2):=by
 constructor
 · intro h;have h1:=Int.tdiv_eq_ediv (a:=x - 1) (b:=2);have hs:Int.sign 2=1:=rfl;rw [h1,hs];split <;> omega
 · intro h;exact Int.tdiv_eq_ediv_of_nonneg h
theorem shr_range (a:Int) (k:Nat) (ha: -2147483648≤a∧a≤2147483647): -2147483648≤a / 2 ^ k∧a / 2 ^ k≤2147483647:=by
 have hp: (0:Int) < 2 ^ k:=Int.pow_pos (by decide);generalize (2:Int) ^ k=M at*;constructor
 · exact Int.le_ediv_of_mul_le hp (by
    have:=Int.mul_le_mul_of_nonneg_left (show (1:Int)≤M by omega) (show (0:Int)≤2147483648 by decide);omega)
 · exact Int.ediv_le_of_le_mul hp (by
    have:=Int.mul_le_mul_of_nonneg_left (show (1:Int)≤M by omega) (show (0:Int)≤2147483647 by decide);omega)
theorem sh_right (a p:Int) (h:p < 0) (ha: -2147483648≤a∧a≤2147483647):wrap32 (shI a p)=a / 2 ^ (-p).toNat:=by
 have hr:=shr_range a (-p).toNat ha;unfold shI;rw [if_neg (by omega),if_neg (by omega)];exact wrap32_in _ hr
end Go.Proofs.YthfldokfnjpkmaaGreatDoor.val
namespace Go.Proofs.YthfldokfnjpkmaaGreatDoor.val
open Go
def Goes (P:Program) (c:Code) (Q:Exit→Act→World→Prop):Nat→Exit→Act→World→Prop
 | 0,e,a,w=>Exit.noGoto Q e a w
 | n+1,.goto l,a,w=>∃rest,findLabel c l=some rest∧rest.wp P (Goes P c Q n) a w
 | _+1,e,a,w=>Q e a w
section
variable {P:Program} {a:Act} {w:World} {Q:Exit→Act→World→Prop}
theorem goes_goto {c rest:Code} {n l:Nat} (hf:findLabel c l=some rest) (h:rest.wp P (Goes P c Q n) a w):Goes P c Q (n+1) (.goto l) a w:=⟨rest,hf,h⟩
theorem goes_ret {c:Code} {n:Nat} (h:Q .ret a w):Goes P c Q n .ret a w:=by cases n <;> exact h
theorem goes_normal {c:Code} {n:Nat} (h:Q .normal a w):Goes P c Q n .normal a w:=by cases n <;> exact h
theorem goes_exit {c:Code} {n i:Nat} (h:Q (.exit i) a w):Goes P c Q n (.exit i) a w:=by cases n <;> exact h
theorem scope_core {c:Code}:∀ (n:Nat) (d:Code) (a:Act) (w:World),d.wp P (Goes P c Q n) a w→∀ (b:Frame) (k:List Item) (cs:List Frame),
 ∃e a' w',Q e a' w'∧Arrives P (lone (b.at a (.code d :: .inScope c :: k)) cs w) b k cs e a' w':=by
 intro n
 induction n with
 | zero=>
   intro d a w h b k cs;obtain ⟨e,a₁,w₁,hq,harr⟩:=h b (.inScope c :: k) cs;cases e with
   | normal=>exact ⟨.normal,a₁,w₁,hq,Steps.trans harr (.one step_inScope)⟩
   | exit id=>exact ⟨.exit id,a₁,w₁,hq,fun k' hk=>harr k' (by simp [exitTo,hk])⟩
   | goto l=>exact hq.elim
   | ret=>exact ⟨_,a₁,w₁,hq,harr⟩
   | panic ch=>exact ⟨_,a₁,w₁,hq,harr⟩
   | outgrown=>exact ⟨_,a₁,w₁,hq,harr⟩
 | succ n ih=>
   intro d a w h b k cs;obtain ⟨e,a₁,w₁,hq,harr⟩:=h b (.inScope c :: k) cs;cases e with
   | normal=>exact ⟨.normal,a₁,w₁,hq,Steps.trans harr (.one step_inScope)⟩
   | exit id=>exact ⟨.exit id,a₁,w₁,hq,fun k' hk=>harr k' (by simp [exitTo,hk])⟩
   | goto l=>
     obtain ⟨rest,hf,hr⟩:=hq;obtain ⟨e₂,a₂,w₂,hq₂,harr₂⟩:=ih rest a₁ w₁ hr b k cs;have hg:gotoIn l (.inScope c :: k)=some (.code rest :: .inScope c :: k):=by simp [gotoIn,hf]
     exact ⟨e₂,a₂,w₂,hq₂,.of_steps (harr _ hg) harr₂⟩
   | ret=>exact ⟨_,a₁,w₁,hq,harr⟩
   | panic ch=>exact ⟨_,a₁,w₁,hq,harr⟩
   | outgrown=>exact ⟨_,a₁,w₁,hq,harr⟩
theorem wp_scope_goes (n:Nat) {c:Code} (h:c.wp P (Goes P c Q n) a w): (Code.scope c).wp P Q a w:=by
 intro b k cs;obtain ⟨e,a₁,w₁,hq,harr⟩:=scope_core n c a w h b k cs;cases e with
 | normal=>exact ⟨.normal,a₁,w₁,hq,.head step_scope harr⟩
 | exit id=>exact ⟨.exit id,a₁,w₁,hq,fun k' hk=> .head step_scope (harr k' hk)⟩
 | goto l=>exact ⟨.goto l,a₁,w₁,hq,fun k' hk=> .head step_scope (harr k' hk)⟩
 | ret=>exact ⟨_,a₁,w₁,hq,.of_steps (.one step_scope) harr⟩
 | panic ch=>exact ⟨_,a₁,w₁,hq,.of_steps (.one step_scope) harr⟩
 | outgrown=>exact ⟨_,a₁,w₁,hq,.of_steps (.one step_scope) harr⟩
end
end Go.Proofs.YthfldokfnjpkmaaGreatDoor.val
