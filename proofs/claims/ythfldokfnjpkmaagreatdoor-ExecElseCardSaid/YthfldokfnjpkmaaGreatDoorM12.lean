/- The sixth part: all statements, and what they use. -/
import Derived.Test.YthfldokfnjpkmaaGreatDoorM11
import Derived.Test.YthfldokfnjpkmaaGreatDoorM01
import Derived.Laws.EntriesVeiled
set_option linter.unusedVariables false
set_option linter.unusedSimpArgs false
namespace Go.Proofs.YthfldokfnjpkmaaGreatDoor
open Go.ChangeShapes Go.WideShapes Go.ChangeAt Go.RowKit
theorem UsesP.is {B p sb:Nat} {h:MH} {m:ModelD} {r:Bool × List Int} {w0 W:World} {b:Bool} (hv:UsesP B p sb h m r w0 (.returned (.bool b)) W):r.1=b:=by
 have:=hv.1;injection this with this
 injection this with this
 exact this.symm
def SJ (B p sb:Nat) (h:MH) (m:ModelD) (R:Int × Bool) (w0:World) (i:Nat) (W:World):Prop:=
 ∃seen left,statGo m (m.procs.zipIdx.drop i) seen=R∧UJ B p sb h m seen left W∧Gn B w0 W
theorem statGo_cons {m:ModelD} {x:ProcD × Nat} {r:List (ProcD × Nat)} {s:List Int}:statGo m (x :: r) s=if (procL m s x).1=true then statGo m r (procL m s x).2 else (x.2,false):=rfl
theorem zip_drop {m:ModelD} {i:Nat} {x:ProcD} (hx:m.procs[i]? =some x):m.procs.zipIdx.drop i= (x,i) :: m.procs.zipIdx.drop (i+1):=by
 obtain ⟨hi,rfl⟩:=List.getElem?_eq_some_iff.1 hx;rw [List.drop_eq_getElem_cons (by rw [List.length_zipIdx];exact hi)];simp
structure PS (m:ModelD) (R:Int × Bool) (i:Nat) (x:ProcD) (seen:List Int) (r1:Bool × List Int):Prop where
 eq:stopF (locL m i) x.locs seen=r1
 no:r1.1=false→R= ((i:Int),false)
 yes:r1.1=true→¬0≤x.provided→statGo m (m.procs.zipIdx.drop (i+1)) r1.2=R
 pno:r1.1=true→0≤x.provided→ (usesL m i r1.2 x.provided).1=false→R= ((i:Int),false)
 pyes:r1.1=true→0≤x.provided→ (usesL m i r1.2 x.provided).1=true→statGo m (m.procs.zipIdx.drop (i+1)) (usesL m i r1.2 x.provided).2=R
theorem PS.of {m:ModelD} {R:Int × Bool} {i:Nat} {x:ProcD} {seen:List Int} (hx:m.procs[i]? =some x) (h:statGo m (m.procs.zipIdx.drop i) seen=R):PS m R i x seen (stopF (locL m i) x.locs seen):=by
 rw [zip_drop hx,statGo_cons] at h;unfold procL at h;simp only at h;refine ⟨rfl,fun h1=> ?_,fun h1 h2=> ?_,fun h1 h2 h3=> ?_,fun h1 h2 h3=> ?_⟩
 · rw [h1] at h;exact h.symm
 · rw [if_pos h1,if_neg h2] at h;exact h
 · rw [if_pos h1,if_pos h2,h3] at h;exact h.symm
 · rw [if_pos h1,if_pos h2,if_pos h3] at h;exact h
theorem stat_start {B p:Nat} {h:MH} {m:ModelD} {w w2:World} (hB:B≤p) (hmd:MD B w h m) (hk:w.heap[p]? =some (.cells (kCells h m (.slice none 0 0) (.slice none 0 0)) 234 (0,0)))
 (hown:w2.ownsRow B 3 1 (.slice (some ⟨w.heap.size,0,none⟩) m.exprs.length m.exprs.length) m.exprs.length (madeCells #[Value.int .i64 0] m.exprs.length).toList) (hg:w.grownBy w2 none):
 UJ B p w.heap.size h m (List.replicate m.exprs.length 0) [] (w2.setCell ⟨p,7,none⟩ (.slice (some ⟨w.heap.size,0,none⟩) m.exprs.length m.exprs.length))∧Below B w (w2.setCell ⟨p,7,none⟩ (.slice (some ⟨w.heap.size,0,none⟩) m.exprs.length m.exprs.length)):=by
 have hlt:p < w.heap.size:=lt_of_block hk;have hb0:Below w.heap.size w w2:=(Below.refl _ _).grown hg (Nat.le_refl _) (fun k hk=>by cases hk);have hp2:=(hb0.block _ hlt).trans hk;have hb:Below B w (w2.setCell ⟨p,7,none⟩ (.slice (some ⟨w.heap.size,0,none⟩) m.exprs.length m.exprs.length)):=(hb0.mono (by omega)).setCell hB _;refine ⟨⟨.slice none 0 0,hB,hmd.below hb, ?_,World.ownsRow_nil _ _ _ _,by simp [Value.ownBlock], ?_⟩,hb⟩
 · rw [heap_setCell_same _ _ _ _ _ _ hp2];rfl
 · have e: (madeCells #[Value.int .i64 0] m.exprs.length).toList=leftV (List.replicate m.exprs.length 0):=by
    unfold leftV;rw [List.map_replicate];exact toList_madeCells_one _ _
   rw [←e];exact owns_set hown _ _ (by simp [Value.ownBlock];omega)
set_option maxHeartbeats 8000000 in
set_option maxRecDepth 100000 in
theorem statementsC {B p:Nat} {h:MH} {m:ModelD} (w:World) (hB:B≤p) (hmd:MD B w h m) (hk:w.heap[p]? =some (.cells (kCells h m (.slice none 0 0) (.slice none 0 0)) 234 (0,0))) (hx:EX m)
 (hprov:∀ (i:Nat) (x:ProcD),m.procs[i]? =some x→x.provided < m.exprs.length):
 Calls Tryz.prog 149 #[.pointer (some ⟨p,0,none⟩)] w fun e w'=>e= .returned (.tuple #[.int .i64 (statementsL m).1,.bool (statementsL m).2])∧Below B w w':=by
 have HEX:=Lib.hid hx;have HPR:=Lib.hid hprov;have hplt:p < w.heap.size:=lt_of_block hk;have hBw:B≤w.heap.size:=by omega
 have HST:=Lib.hid fun w2 hown hg=>stat_start (w2:=w2) hB hmd hk hown hg
 obtain ⟨R,hR⟩:∃R,statementsL m=R:=⟨_,rfl⟩;have HR0:Hid (statGo m (m.procs.zipIdx.drop 0) (List.replicate m.exprs.length 0)=R):=Lib.hid (by rw [←hR];rfl);rw [hR];have c6:w.cell? ⟨p,6,none⟩=some (.slice h.eo m.exprs.length h.ec):=(cell_of_row _ _ _ _ _ _ hk).trans rfl;have HKC:Hid (∃cs,w.heap[p]? =some (.cells cs 234 (0,0))):=Lib.hid ⟨_,hk⟩;have hpl:m.procs.length≤140737488355328:=hmd.procs.1;have hel:m.exprs.length≤4096:=hx.le;have HPAT:Hid (∀ (i:Nat) (x:ProcD),m.procs[i]? =some x→∃g off lo lc,h.po=some ⟨g,off,none⟩∧x.locs.length≤140737488355328∧∀W,Below B w W→W.cell? ⟨g,off+i*10+4,none⟩=some (.slice lo x.locs.length lc)∧W.cell? ⟨g,off+i*10+9,none⟩=some (.int .i64 x.provided)∧Row B lo 7 (locAt B W) x.locs):=Lib.hid fun i x hx=>by
  obtain ⟨g,off,ho,hg,hpa⟩:=hmd.procs.get hx;obtain ⟨lo,lc,h1,h2⟩:=hpa.locs;exact ⟨g,off,lo,lc,ho,h2.1,fun W hb=>⟨(hb.cell hg).trans h1,(hb.cell hg).trans hpa.c9,h2.mono fun _ _ _ hg'=>locAt.below hb hg'⟩⟩
 obtain ⟨i3,hi3,hz0,hz1,hz2⟩:=info_parts info_int;have HI:=Lib.hid (And.intro hi3 (And.intro hz0 (And.intro hz1 hz2)));have HL1:Hid (m.exprs.length≤maxLen):=Lib.hid (by unfold maxLen;omega);have HL2:Hid (i3.bytes*m.exprs.length≤281474976710656):=Lib.hid (by rw [HI.out.2.2.2];omega);clear hi3 hz0 hz1 hz2 hR hk hmd hx hprov;go_enter Tryz.func149,Tryz.ntmps149;go_wp2_with (refine wpList_make_full _ rfl _ _ 25 rfl B 3 i3 (.int .i64 0) 1 Tryz.underlying25 HI.out.1 HI.out.2.1 HI.out.2.2.1 .i64 .i64 _ _ m.exprs.length rfl rfl rfl rfl HL2.out HL1.out hBw ?_);intro w2 hown hgrow;have hs:=HST.out w2 hown hgrow;have HUJ:=Lib.hid hs.1;have HB1:=Lib.hid hs.2;have HC2:Hid (∃cs,w2.heap[p]? =some (.cells cs 234 (0,0))∧∃v,w2.cell? ⟨p,7,none⟩=some v):=Lib.hid (by
  obtain ⟨lv,k⟩:=HUJ.out;obtain ⟨cs,hcs⟩:=HKC.out;have h2:w2.heap[p]? =some (.cells cs 234 (0,0)):=(hgrow.block p hplt (by simp)).trans hcs;have h3:=k.kp;rw [heap_setCell_same _ _ _ _ _ _ h2] at h3;injection h3 with h3
  injection h3 with h3
  refine ⟨cs,h2, ?_⟩;have h4:7 < cs.size:=by
   have h5:=congrArg Array.size h3;simp [kCells] at h5;omega
  exact ⟨cs[7],(cell_of_row _ _ _ _ _ _ h2).trans (Array.getElem?_eq_getElem h4)⟩)
 obtain ⟨cs,hc1,v7,hc2⟩:=HC2.out;have f7:w2.frozen? ⟨p,7,none⟩=false:=frozen_of_row _ _ _ _ _ hc1;clear hs hown hgrow c6 hc1;go_upto_region 2 with (fail)
 clear hc2 f7;generalize w2.setCell ⟨p,7,none⟩ (.slice (some ⟨w.heap.size,0,none⟩) m.exprs.length m.exprs.length)=W1 at HUJ HB1 ⊢;generalize w.heap.size=sb at HUJ ⊢;have HSJ0:Hid (SJ B p sb h m R W1 0 W1):=Lib.hid ⟨_,_,HR0.out,HUJ.out,Gn.refl _ _⟩;have c4:W1.cell? ⟨p,4,none⟩=some (.slice h.po m.procs.length h.pc):=by
  obtain ⟨lv,k⟩:=HUJ.out;exact k.ck.c4
 clear HUJ HR0;go_wp2_with fail;clear c4
 go_loopw [26] (fun iv W=>∃i:Nat,iv= .int .i64 i∧i≤m.procs.length∧Hid (SJ B p sb h m R W1 i W)) (fun iv _=>m.procs.length - (intOf iv).toNat)
 case atStart=>exact ⟨0,rfl,by omega,HSJ0⟩
 case round=>
  clear HSJ0;obtain ⟨i,rfl,hi,HS⟩:=hrel;have hi0: (0:Int)≤i:=by omega
  by_cases hlt:i < m.procs.length
  · have hlti: (i:Int) < m.procs.length:=by omega
    obtain ⟨x,hpx⟩:∃x,m.procs[i]? =some x:=⟨_,List.getElem?_eq_getElem hlt⟩;obtain ⟨g,off,lo,lc,ho,hll,hat⟩:=HPAT.out i x hpx;have HAT:=Lib.hid hat;obtain ⟨seen,left,hs1,hs2,hs3⟩:=HS.out;have hps:=PS.of hpx hs1;generalize stopF (locL m i) x.locs seen=r1 at hps;have HPS:=Lib.hid hps;have hprov:=HPR.out i x hpx;have HBW:Hid (Below B w wr):=Lib.hid (HB1.out.trans hs3.bel);have HFJ:Hid (FJ (locL m i) B p sb h m r1 W1 (x.locs.drop 0) wr):=Lib.hid ⟨seen,left,hps.eq,hs2,hs3⟩;have hww:=hat wr HBW.out;have d4:=hww.1;have c4:wr.cell? ⟨p,4,none⟩=some (.slice (some ⟨g,off,none⟩) m.procs.length h.pc):=by rw [←ho];exact HFJ.out.ck.c4
    clear hat hs1 hs2 hs3 hps hww ho HS hpx;go_wp2_with fail;clear c4 d4
    go_loopw [41] (fun iv W=>∃j:Nat,iv= .int .i64 j∧j≤x.locs.length∧Hid (FJ (locL m i) B p sb h m r1 W1 (x.locs.drop j) W)) (fun iv _=>x.locs.length - (intOf iv).toNat)
    case atStart=>exact ⟨0,rfl,by omega,HFJ⟩
    case round=>
     clear HFJ HBW;obtain ⟨j,rfl,hj,HJ⟩:=hrel;have hj0: (0:Int)≤j:=by omega
     have HBW:Hid (Below B w wr):=Lib.hid (HB1.out.trans HJ.out.gn.bel);have d4:=(HAT.out wr HBW.out).1;by_cases hlt2:j < x.locs.length
     · have hlti2: (j:Int) < x.locs.length:=by omega
       obtain ⟨gl,offl,hol,hgl,hloc⟩:=(HAT.out w (Below.refl _ _)).2.2.cell hlt2;obtain ⟨l,hle⟩:∃l,x.locs[j]=l:=⟨_,rfl⟩;rw [hle] at hloc;have HN1:Hid (FJ (locL m i) B p sb h m r1 W1 (l :: x.locs.drop (j+1)) wr):=Lib.hid (by have:=HJ.out;rw [drop_cons hlt2,hle] at this;exact this);obtain ⟨oo,oc,l0,hro⟩:=hloc.out;obtain ⟨eo,ec,l1,hre⟩:=hloc.esc;have HLE:Hid (∀W,Below B w W→W.cell? ⟨gl,offl+j*7,none⟩=some (.slice oo l.out.length oc)∧W.cell? ⟨gl,offl+j*7+1,none⟩=some (.slice eo l.esc.length ec)∧Row B oo 9 (transAt B W) l.out∧Row B eo 1 (escAt B W) l.esc):=Lib.hid fun W hb=>⟨(hb.cell hgl).trans l0,(hb.cell hgl).trans l1,hro.mono fun _ _ _ hg'=>transAt.below hb hg',hre.mono fun _ _ _ hg'=>escAt.below hb hg'⟩
       have hel2:=hre.1;obtain ⟨seen2,left2,q1,q2,q3⟩:=HN1.out;obtain ⟨r2,hr2⟩:∃r2,locL m i seen2 l=r2:=⟨_,rfl⟩;have HV2:Hid (FJ (waysL m i) B p sb h m r2 W1 (l.out :: l.esc) wr):=Lib.hid ⟨seen2,left2,hr2,q2,q3⟩;have HNO:Hid (r2.1=false→R= ((i:Int),false)):=Lib.hid fun h2=>HPS.out.no (by rw [←q1,stopF_no (by rw [hr2];exact h2)])
       have HYES:Hid (r2.1=true→stopF (locL m i) (x.locs.drop (j+1)) r2.2=r1):=Lib.hid fun h2=>by rw [←q1,stopF_yes (by rw [hr2];exact h2),hr2]
       rw [hol] at d4;have l00:=(HLE.out wr HBW.out).1;have HC:=Lib.hid (HV2.out.call (F:=177) (args:=#[.pointer (some ⟨p,0,none⟩),.int .i64 i,.slice oo l.out.length oc]) (fun seen left hj=>waysC i l.out oo oc wr hj HEX.out hlt (HLE.out wr HBW.out).2.2.1));clear hol hle hloc hro hre l0 l1 q1 q2 q3 hr2 HJ HN1;go_wp2_with fail;clear d4 l00;refine HC.out.mono ?_;rintro e W3 ⟨u,rfl,hy,hn⟩;have HY:=Lib.hid hy;have HN:=Lib.hid hn;clear hy hn HC;cases u
       · have HZ:=Lib.hid (HN.out rfl);have HRR:Hid (R= ((i:Int),false)):=Lib.hid (HNO.out HZ.out.is);go_wp2_with fail;go_ret2;exact ⟨retIB (by rw [HRR.out]) (by rw [HRR.out]),HB1.out.trans HZ.out.2.2.bel⟩
       · have HFE:Hid (FJ (waysL m i) B p sb h m r2 W1 (l.esc.drop 0) W3):=Lib.hid (HY.out rfl);have l1':=(HLE.out W3 (HB1.out.trans HFE.out.gn.bel)).2.1;clear HY HN HV2;go_wp2_with fail;clear l1'
         go_loopw [64] (fun iv W=>∃k:Nat,iv= .int .i64 k∧k≤l.esc.length∧Hid (FJ (waysL m i) B p sb h m r2 W1 (l.esc.drop k) W)) (fun iv _=>l.esc.length - (intOf iv).toNat)
         case atStart=>exact ⟨0,rfl,by omega,HFE⟩
         case round=>
          clear HFE HBW;obtain ⟨k,rfl,hk,HK⟩:=hrel;have hk0: (0:Int)≤k:=by omega
          have HBW:Hid (Below B w wr):=Lib.hid (HB1.out.trans HK.out.gn.bel);by_cases hlt3:k < l.esc.length
          · have hlti3: (k:Int) < l.esc.length:=by omega
            obtain ⟨ge,offe,hoe,hge,hes⟩:=(HLE.out wr HBW.out).2.2.2.cell hlt3;obtain ⟨es,hee⟩:∃es,l.esc[k]=es:=⟨_,rfl⟩;rw [hee] at hes;obtain ⟨so,sc,e0,hse⟩:=hes;have HN1:Hid (FJ (waysL m i) B p sb h m r2 W1 (es :: l.esc.drop (k+1)) wr):=Lib.hid (by have:=HK.out;rw [drop_cons hlt3,hee] at this;exact this);have HC:=Lib.hid (HN1.out.call (F:=177) (args:=#[.pointer (some ⟨p,0,none⟩),.int .i64 i,.slice so es.length sc]) (fun seen left hj=>waysC i es so sc wr hj HEX.out hlt hse));rw [Nat.mul_one] at e0;subst hoe;clear hge hee hse HK;go_wp2_with fail;clear e0;refine HC.out.mono ?_;rintro e W4 ⟨u,rfl,hy,hn⟩;have HY:=Lib.hid hy;have HN:=Lib.hid hn;clear hy hn HC;cases u
            · have HZ:=Lib.hid (HN.out rfl);have HRR:Hid (R= ((i:Int),false)):=Lib.hid (HNO.out HZ.out.is);go_wp2_with fail;go_ret2;exact ⟨retIB (by rw [HRR.out]) (by rw [HRR.out]),HB1.out.trans HZ.out.2.2.bel⟩
            · have HZ:=Lib.hid (HY.out rfl);go_wp2_with fail;go_roundw;case rel=>exact ⟨k+1,by go_num,by omega,HZ⟩
              case measure=>simp [intOf];omega
          · have hlti3:¬ (k:Int) < l.esc.length:=by omega
            have HZ:Hid (FJ (locL m i) B p sb h m r1 W1 (x.locs.drop (j+1)) wr):=Lib.hid (by
             have h5:=HK.out;rw [List.drop_of_length_le (by omega)] at h5;have h6:=h5.done;obtain ⟨left6,h7⟩:=h6.2.1;exact ⟨_,left6,HYES.out h6.is,h7,h6.2.2⟩)
            go_wp2_with fail;go_roundw;case rel=>exact ⟨j+1,by go_num,by omega,HZ⟩
            case measure=>simp [intOf];omega
     · have hlti2:¬ (j:Int) < x.locs.length:=by omega
       have HD:Hid (UsesP B p sb h m r1 W1 (.returned (.bool true)) wr):=Lib.hid (by have h5:=HJ.out;rw [List.drop_of_length_le (by omega)] at h5;exact h5.done);have d9:=(HAT.out wr HBW.out).2.1;clear d4 HJ;by_cases hp0:0≤x.provided
       · obtain ⟨q,hq⟩:∃q:Nat,x.provided=q:=⟨x.provided.toNat,by omega⟩;have hdp:decide (0≤ (q:Int))=true:=decide_eq_true (by omega);have HP0:=Lib.hid hp0;have HQ:=Lib.hid hq;have HC:=Lib.hid (by
          obtain ⟨left6,h7⟩:=HD.out.2.1;exact usesC i q wr h7 HEX.out hlt (by omega))
         have hq0: (0:Int)≤q:=by omega
         rw [hq] at d9;clear hp0 hq;go_wp2_with fail;clear d9;refine HC.out.mono ?_;rintro e W5 ⟨rfl,h8,h9⟩;have H8:=Lib.hid h8;have H9:=Lib.hid (HD.out.2.2.trans h9);clear h8 h9 HC;obtain ⟨u,hu⟩:∃u,(usesL m i r1.2 q).1=u:=⟨_,rfl⟩;rw [hu];have HU:=Lib.hid hu;clear hu;cases u
         · have HRR:Hid (R= ((i:Int),false)):=Lib.hid (HPS.out.pno HD.out.is HP0.out (by rw [HQ.out];exact HU.out));go_wp2_with fail;go_ret2;exact ⟨retIB (by rw [HRR.out]) (by rw [HRR.out]),HB1.out.trans H9.out.bel⟩
         · have HZ:Hid (SJ B p sb h m R W1 (i+1) W5):=Lib.hid (by
            obtain ⟨left6,h7⟩:=H8.out;exact ⟨_,left6,by have:=HPS.out.pyes HD.out.is HP0.out (by rw [HQ.out];exact HU.out);rw [HQ.out] at this;exact this,h7,H9.out⟩)
           go_wp2_with fail;go_roundw;case rel=>exact ⟨i+1,by go_num,by omega,HZ⟩
           case measure=>simp [intOf];omega
       · have hdp:decide (0≤x.provided)=false:=decide_eq_false hp0;have HZ:Hid (SJ B p sb h m R W1 (i+1) wr):=Lib.hid (by
          obtain ⟨left6,h7⟩:=HD.out.2.1;exact ⟨_,left6,HPS.out.yes HD.out.is hp0,h7,HD.out.2.2⟩)
         clear hp0;go_wp2_with fail;go_roundw;case rel=>exact ⟨i+1,by go_num,by omega,HZ⟩
         case measure=>simp [intOf];omega
  · have hlti:¬ (i:Int) < m.procs.length:=by omega
    have HRR:Hid (R= (0,true)):=Lib.hid (by
     obtain ⟨seen,left,h1,h2,h3⟩:=HS.out;rw [List.drop_of_length_le (by rw [List.length_zipIdx];omega)] at h1;exact h1.symm)
    have HBE:=Lib.hid (HB1.out.trans (by obtain ⟨seen,left,h1,h2,h3⟩:=HS.out;exact h3.bel));go_wp2_with fail;go_ret2;exact ⟨retIB (by rw [HRR.out]) (by rw [HRR.out]),HBE.out⟩
end Go.Proofs.YthfldokfnjpkmaaGreatDoor
namespace Go.Proofs.YthfldokfnjpkmaaGreatDoor
open Go.ChangeShapes Go.WideShapes Go.ChangeAt Go.RowKit
section
variable {B B':Nat} {w:World} (hB:B≤B')
include hB
theorem Row.lift {α:Type} {o:Option Addr} {k:Nat} {R R':Nat→Nat→α→Prop} {l:List α} (h:Row B o k R l) (hR:∀g a x,g < B→R g a x→R' g a x):Row B' o k R' l:=(h.mono hR).up hB
theorem Sli.lift {α:Type} {g a k:Nat} {R R':Nat→Nat→α→Prop} {l:List α} (h:Sli B w g a k R l) (hR:∀g a x,g < B→R g a x→R' g a x):Sli B' w g a k R' l:=by
 obtain ⟨o,c,h1,h2⟩:=h;exact ⟨o,c,h1,h2.lift hB hR⟩
theorem varAt.lift {g a:Nat} {x:VarD} (h:varAt B w g a x):varAt B' w g a x:=⟨h.c0,h.c1,h.c2,h.c3,h.dims.lift hB fun _ _ _ _ h=>h⟩
theorem exprAt.lift {g a:Nat} {x:ExprD} (h:exprAt B w g a x):exprAt B' w g a x:=⟨h.c0,h.c1,h.c2,h.c3,h.c4,h.v.lift hB,h.args.lift hB fun _ _ _ _ h=>h,h.mat.lift hB fun _ _ _ _ h=>h⟩
theorem stmtAt.lift {g a:Nat} {x:StmtD} (h:stmtAt B w g a x):stmtAt B' w g a x:=⟨h.c0,h.c1,h.c2,h.c3,h.args.lift hB fun _ _ _ _ h=>h,h.mat.lift hB fun _ _ _ _ h=>h,h.c6⟩
theorem transAt.lift {g a:Nat} {x:TransD} (h:transAt B w g a x):transAt B' w g a x:=⟨h.s.lift hB,h.c7,h.c8⟩
theorem escAt.lift {g a:Nat} {x:List TransD} (h:escAt B w g a x):escAt B' w g a x:=Sli.lift hB h fun _ _ _ _ h=>h.lift hB
theorem locAt.lift {g a:Nat} {x:LocD} (h:locAt B w g a x):locAt B' w g a x:=⟨h.out.lift hB fun _ _ _ _ h=>h.lift hB,h.esc.lift hB fun _ _ _ _ h=>h.lift hB,h.c2,h.c3,h.c4,h.c5,h.c6⟩
theorem procAt.lift {g a:Nat} {x:ProcD} (h:procAt B w g a x):procAt B' w g a x:=⟨h.c0,h.c1,h.frame.lift hB fun _ _ _ _ h=>h,h.init.lift hB fun _ _ _ _ h=>h,h.locs.lift hB fun _ _ _ _ h=>h.lift hB,h.c5,h.c6,h.c7,h.c8,h.c9⟩
theorem shapeAt.lift {g a:Nat} {x:ShapeD} (h:shapeAt B w g a x):shapeAt B' w g a x:=⟨h.c0,h.fields.lift hB fun _ _ _ _ h=>h⟩
theorem MD.lift {h:MH} {m:ModelD} (hm:MD B w h m):MD B' w h m:=
 ⟨hm.globals.lift hB fun _ _ _ _ h=>h,hm.init.lift hB fun _ _ _ _ h=>h,hm.shapes.lift hB fun _ _ _ _ h=>h.lift hB,hm.chans.lift hB fun _ _ _ _ h=>h,hm.procs.lift hB fun _ _ _ _ h=>h.lift hB,hm.exprs.lift hB fun _ _ _ _ h=>h.lift hB⟩
end
end Go.Proofs.YthfldokfnjpkmaaGreatDoor
namespace Go.Proofs.YthfldokfnjpkmaaGreatDoor
open Go.ChangeShapes Go.WideShapes Go.ChangeAt Go.RowKit
theorem procsL_all {m:ModelD} (h: (procsL m).2=true) {i:Nat} {x:ProcD} (hx:m.procs[i]? =some x):procB m (x,i)=true:=by
 unfold procsL idxB at h;split at h
 · cases h
 · rename_i hb
   refine bad_all hb _ ?_;obtain ⟨hi,rfl⟩:=List.getElem?_eq_some_iff.1 hx;rw [List.mem_iff_getElem];exact ⟨i,by rw [List.length_zipIdx];exact hi,by simp⟩
theorem procsL_tail {m:ModelD} (h: (procsL m).2=true) {i:Nat} {x:ProcD} (hx:m.procs[i]? =some x): (0≤x.active∧x.active≤16)∧x.provided < m.exprs.length:=by
 have h1:=procsL_all h hx;unfold procB frameB frameTailB at h1;simp only [Bool.and_eq_true,decide_eq_true_eq] at h1;obtain ⟨⟨⟨_,h2⟩,_⟩,_⟩:=h1;exact ⟨⟨h2.1,h2.2.1⟩,h2.2.2.2.2.2⟩
theorem exprs_head {m:ModelD} (h: (expressionsL m).2=true):m.procs.length≤16:=by
 unfold expressionsL at h;split at h
 · cases h
 · rename_i hh
   unfold exprsHead at hh;rw [decide_eq_true_eq] at hh;omega
theorem index6 (cs:Array Value) (k:Nat) (v:Value) (hk:k < 6) (w:World) (h:cs[k]? =some v): (Instr.index 236 (.agg cs) (.int .i64 (k:Int))).run Tryz.prog w= .ok v w:=by
 have hi: (0:Int)≤k∧ (k:Int) < 6:=by omega
 have info: (Tryz.prog.info? 235).map (fun i=>(i.zero,i.size,i.bytes))=some (some .nilFunc,1,8):=by kernel_rfl
 have hs:∀w,(sizeOf 235).run Tryz.prog w= .ok 1 w:=fun w=>by
  obtain ⟨i,hi⟩:∃i,Tryz.prog.info? 235=some i:=by
   have:=info;cases h:Tryz.prog.info? 235 with
   | none=>rw [h] at this;cases this
   | some i=>exact ⟨i,rfl⟩
  have h2:=info;rw [hi] at h2;simp at h2;simp [sizeOf,typeInfo,hi,h2.2.1,go_sem]
 simp [Instr.index,asIntOf,run_underlying Tryz.underlying236,hi,hs,go_sem];rw [if_pos hk,h];rfl
theorem retIII {a b c a' b' c':Int} (h1:a=a') (h2:b=b') (h3:c=c'):Ending.returned (.tuple #[.int .i64 a,.int .i64 b,.int .i64 c])= .returned (.tuple #[.int .i64 a',.int .i64 b',.int .i64 c']):=by rw [h1,h2,h3]
set_option maxHeartbeats 4000000 in
set_option maxRecDepth 100000 in
theorem checkC {B:Nat} {h:MH} {m:ModelD} (w:World) (hB:B≤w.heap.size) (hmd:MD B w h m):
 Calls Tryz.prog 103 #[mV h m] w fun e w'=>e= .returned (.tuple #[.int .i64 (checkL m).1,.int .i64 (checkL m).2.1,.int .i64 (checkL m).2.2])∧Below w.heap.size w w':=by
 have hmf:∀ (fn:Fn) (first cap:Array Value) (w:World),(Instr.makeFunc fn first cap).run Tryz.prog w= .ok (.func fn first cap) w:=fun _ _ _ _=>rfl
 have hx0:∀ (a b c d e f:Value) (w:World),(Instr.index 236 (.agg #[a,b,c,d,e,f]) (.int .i64 0)).run Tryz.prog w= .ok a w:=fun _ _ _ _ _ _ _=>index6 _ 0 _ (by decide) _ rfl
 have hx1:∀ (a b c d e f:Value) (w:World),(Instr.index 236 (.agg #[a,b,c,d,e,f]) (.int .i64 1)).run Tryz.prog w= .ok b w:=fun _ _ _ _ _ _ _=>index6 _ 1 _ (by decide) _ rfl
 have hx2:∀ (a b c d e f:Value) (w:World),(Instr.index 236 (.agg #[a,b,c,d,e,f]) (.int .i64 2)).run Tryz.prog w= .ok c w:=fun _ _ _ _ _ _ _=>index6 _ 2 _ (by decide) _ rfl
 have hx3:∀ (a b c d e f:Value) (w:World),(Instr.index 236 (.agg #[a,b,c,d,e,f]) (.int .i64 3)).run Tryz.prog w= .ok d w:=fun _ _ _ _ _ _ _=>index6 _ 3 _ (by decide) _ rfl
 have hx4:∀ (a b c d e f:Value) (w:World),(Instr.index 236 (.agg #[a,b,c,d,e,f]) (.int .i64 4)).run Tryz.prog w= .ok e w:=fun _ _ _ _ _ _ _=>index6 _ 4 _ (by decide) _ rfl
 have hx5:∀ (a b c d e f:Value) (w:World),(Instr.index 236 (.agg #[a,b,c,d,e,f]) (.int .i64 5)).run Tryz.prog w= .ok f w:=fun _ _ _ _ _ _ _=>index6 _ 5 _ (by decide) _ rfl
 have HB:Hid (Below w.heap.size w (((w.alloc (.cells #[.slice h.go m.globals.length h.gc,.slice h.io m.init.length h.ic,.slice h.so m.shapes.length h.sc,.slice h.co m.chans.length h.cc,.slice h.po m.procs.length h.pc,.int .i64 m.claim,.slice h.eo m.exprs.length h.ec] 29)).alloc (.cells #[.slice h.go m.globals.length h.gc,.slice h.io m.init.length h.ic,.slice h.so m.shapes.length h.sc,.slice h.co m.chans.length h.cc,.slice h.po m.procs.length h.pc,.int .i64 m.claim,.slice h.eo m.exprs.length h.ec,.slice none 0 0,.slice none 0 0] 234)).alloc (.cells #[.func (.func 144) #[.pointer (some ⟨w.heap.size+1,0,none⟩)] #[],.func (.func 145) #[.pointer (some ⟨w.heap.size+1,0,none⟩)] #[],.func (.func 146) #[.pointer (some ⟨w.heap.size+1,0,none⟩)] #[],.func (.func 147) #[.pointer (some ⟨w.heap.size+1,0,none⟩)] #[],.func (.func 148) #[.pointer (some ⟨w.heap.size+1,0,none⟩)] #[],.func (.func 149) #[.pointer (some ⟨w.heap.size+1,0,none⟩)] #[]] 236))):=Lib.hid ((((Below.refl _ _).alloc (Nat.le_refl _) _).alloc (by simp) _).alloc (by simp;omega) _);have HO:Hid ((((w.alloc (.cells #[.slice h.go m.globals.length h.gc,.slice h.io m.init.length h.ic,.slice h.so m.shapes.length h.sc,.slice h.co m.chans.length h.cc,.slice h.po m.procs.length h.pc,.int .i64 m.claim,.slice h.eo m.exprs.length h.ec] 29)).alloc (.cells #[.slice h.go m.globals.length h.gc,.slice h.io m.init.length h.ic,.slice h.so m.shapes.length h.sc,.slice h.co m.chans.length h.cc,.slice h.po m.procs.length h.pc,.int .i64 m.claim,.slice h.eo m.exprs.length h.ec,.slice none 0 0,.slice none 0 0] 234)).alloc (.cells #[.func (.func 144) #[.pointer (some ⟨w.heap.size+1,0,none⟩)] #[],.func (.func 145) #[.pointer (some ⟨w.heap.size+1,0,none⟩)] #[],.func (.func 146) #[.pointer (some ⟨w.heap.size+1,0,none⟩)] #[],.func (.func 147) #[.pointer (some ⟨w.heap.size+1,0,none⟩)] #[],.func (.func 148) #[.pointer (some ⟨w.heap.size+1,0,none⟩)] #[],.func (.func 149) #[.pointer (some ⟨w.heap.size+1,0,none⟩)] #[]] 236)).heap[w.heap.size+1]? =some (.cells (kCells h m (.slice none 0 0) (.slice none 0 0)) 234 (0,0))):=Lib.hid (by
  rw [Below.heap_alloc _ _ _ (by simp)];have h:=heap_alloc_new (w.alloc (.cells #[.slice h.go m.globals.length h.gc,.slice h.io m.init.length h.ic,.slice h.so m.shapes.length h.sc,.slice h.co m.chans.length h.cc,.slice h.po m.procs.length h.pc,.int .i64 m.claim,.slice h.eo m.exprs.length h.ec] 29)) (.cells #[.slice h.go m.globals.length h.gc,.slice h.io m.init.length h.ic,.slice h.so m.shapes.length h.sc,.slice h.co m.chans.length h.cc,.slice h.po m.procs.length h.pc,.int .i64 m.claim,.slice h.eo m.exprs.length h.ec,.slice none 0 0,.slice none 0 0] 234);rw [World.size_alloc] at h;exact h)
 have HMD:=Lib.hid ((hmd.lift hB).below HB.out);clear hmd;obtain ⟨r1,r2,r3,hr⟩:∃r1 r2 r3,checkL m= (r1,r2,r3):=⟨_,_,_,rfl⟩;have HR:=Lib.hid hr;rw [hr];simp only;clear hr;unfold mV mCells;go_enter Tryz.func103,Tryz.ntmps103;go_wp2_with fail;generalize (((w.alloc (.cells #[.slice h.go m.globals.length h.gc,.slice h.io m.init.length h.ic,.slice h.so m.shapes.length h.sc,.slice h.co m.chans.length h.cc,.slice h.po m.procs.length h.pc,.int .i64 m.claim,.slice h.eo m.exprs.length h.ec] 29)).alloc (.cells #[.slice h.go m.globals.length h.gc,.slice h.io m.init.length h.ic,.slice h.so m.shapes.length h.sc,.slice h.co m.chans.length h.cc,.slice h.po m.procs.length h.pc,.int .i64 m.claim,.slice h.eo m.exprs.length h.ec,.slice none 0 0,.slice none 0 0] 234)).alloc (.cells #[.func (.func 144) #[.pointer (some ⟨w.heap.size+1,0,none⟩)] #[],.func (.func 145) #[.pointer (some ⟨w.heap.size+1,0,none⟩)] #[],.func (.func 146) #[.pointer (some ⟨w.heap.size+1,0,none⟩)] #[],.func (.func 147) #[.pointer (some ⟨w.heap.size+1,0,none⟩)] #[],.func (.func 148) #[.pointer (some ⟨w.heap.size+1,0,none⟩)] #[],.func (.func 149) #[.pointer (some ⟨w.heap.size+1,0,none⟩)] #[]] 236))=W at HB HO HMD ⊢;have HPLE:Hid (w.heap.size≤w.heap.size+1):=Lib.hid (by omega);generalize w.heap.size+1=p at HO HPLE ⊢;have hlt:p < W.heap.size:=lt_of_block HO.out;have HCK:Hid (∀W',Below W.heap.size W W'→Ck w.heap.size W' p h m∧MD w.heap.size W' h m∧W'.heap[p]? =some (.cells (kCells h m (.slice none 0 0) (.slice none 0 0)) 234 (0,0))):=Lib.hid fun W' hb=>by
  have hp:=(hb.block _ hlt).trans HO.out;have hm:MD w.heap.size W' h m:=HMD.out.below (hb.mono HB.out.size);exact ⟨⟨(cell_of_row _ _ _ _ _ _ hp).trans rfl,(cell_of_row _ _ _ _ _ _ hp).trans rfl,(cell_of_row _ _ _ _ _ _ hp).trans rfl,(cell_of_row _ _ _ _ _ _ hp).trans rfl,(cell_of_row _ _ _ _ _ _ hp).trans rfl,(cell_of_row _ _ _ _ _ _ hp).trans rfl,(cell_of_row _ _ _ _ _ _ hp).trans rfl,Nat.le_trans HPLE.out (Nat.le_of_lt (lt_of_block hp)),lt_of_block hp,hm⟩,hm,hp⟩
 have HB0:Hid (Below W.heap.size W W):=Lib.hid (Below.refl _ _);refine wp_loop_rounds 7 ?_;rw [rounds_succ];go_wp2_with fail;refine (globalsC _ (HCK.out _ HB0.out).1).mono ?_;rintro e w1 ⟨rfl,hb⟩;have HB1:Hid (Below W.heap.size W w1):=Lib.hid (HB0.out.trans (hb.mono HB0.out.size));have HBE:Hid (Below w.heap.size w w1):=Lib.hid (HB.out.trans (HB1.out.mono HB.out.size));clear hb;obtain ⟨q,u,hq⟩:∃q u,globalsL m= (q,u):=⟨_,_,rfl⟩;have HQ0:=Lib.hid hq;rw [hq];simp only;clear hq;cases u
 · have HZ:Hid (40=r1∧1=r2∧q=r3):=Lib.hid (by
    have h1:=HR.out;unfold checkL at h1;rw [if_pos (by rw [HQ0.out]),HQ0.out] at h1;injection h1 with h1 h2
    injection h2 with h2 h3
    exact ⟨h1,h2,h3⟩)
   go_wp2_with fail;go_ret3;exact ⟨retIII HZ.out.1 HZ.out.2.1 HZ.out.2.2,HBE.out⟩
 have HT0:Hid ((globalsL m).2=true):=Lib.hid (by rw [HQ0.out]);clear HBE;go_wp2_with fail;rw [rounds_succ];go_wp2_with fail;refine (channelsC _ (HCK.out _ HB1.out).1).mono ?_;rintro e w2 ⟨rfl,hb⟩;have HB2:Hid (Below W.heap.size W w2):=Lib.hid (HB1.out.trans (hb.mono HB1.out.size));have HBE:Hid (Below w.heap.size w w2):=Lib.hid (HB.out.trans (HB2.out.mono HB.out.size));clear hb;obtain ⟨q,u,hq⟩:∃q u,channelsL m= (q,u):=⟨_,_,rfl⟩;have HQ1:=Lib.hid hq;rw [hq];simp only;clear hq;cases u
 · have HZ:Hid (40=r1∧2=r2∧q=r3):=Lib.hid (by
    have h1:=HR.out;unfold checkL at h1;rw [if_neg (by rw [HT0.out];decide),if_pos (by rw [HQ1.out]),HQ1.out] at h1;injection h1 with h1 h2
    injection h2 with h2 h3
    exact ⟨h1,h2,h3⟩)
   go_wp2_with fail;go_ret3;exact ⟨retIII HZ.out.1 HZ.out.2.1 HZ.out.2.2,HBE.out⟩
 have HT1:Hid ((channelsL m).2=true):=Lib.hid (by rw [HQ1.out]);clear HBE;go_wp2_with fail;rw [rounds_succ];go_wp2_with fail;refine (expressionsC _ (HCK.out _ HB2.out).1).mono ?_;rintro e w3 ⟨rfl,hb⟩;have HB3:Hid (Below W.heap.size W w3):=Lib.hid (HB2.out.trans (hb.mono HB2.out.size));have HBE:Hid (Below w.heap.size w w3):=Lib.hid (HB.out.trans (HB3.out.mono HB.out.size));clear hb;obtain ⟨q,u,hq⟩:∃q u,expressionsL m= (q,u):=⟨_,_,rfl⟩;have HQ2:=Lib.hid hq;rw [hq];simp only;clear hq;cases u
 · have HZ:Hid (40=r1∧3=r2∧q=r3):=Lib.hid (by
    have h1:=HR.out;unfold checkL at h1;rw [if_neg (by rw [HT0.out];decide),if_neg (by rw [HT1.out];decide),if_pos (by rw [HQ2.out]),HQ2.out] at h1;injection h1 with h1 h2
    injection h2 with h2 h3
    exact ⟨h1,h2,h3⟩)
   go_wp2_with fail;go_ret3;exact ⟨retIII HZ.out.1 HZ.out.2.1 HZ.out.2.2,HBE.out⟩
 have HT2:Hid ((expressionsL m).2=true):=Lib.hid (by rw [HQ2.out]);clear HBE;go_wp2_with fail;rw [rounds_succ];go_wp2_with fail;refine (procsC _ (HCK.out _ HB3.out).1).mono ?_;rintro e w4 ⟨rfl,hb⟩;have HB4:Hid (Below W.heap.size W w4):=Lib.hid (HB3.out.trans (hb.mono HB3.out.size));have HBE:Hid (Below w.heap.size w w4):=Lib.hid (HB.out.trans (HB4.out.mono HB.out.size));clear hb;obtain ⟨q,u,hq⟩:∃q u,procsL m= (q,u):=⟨_,_,rfl⟩;have HQ3:=Lib.hid hq;rw [hq];simp only;clear hq;cases u
 · have HZ:Hid (40=r1∧4=r2∧q=r3):=Lib.hid (by
    have h1:=HR.out;unfold checkL at h1;rw [if_neg (by rw [HT0.out];decide),if_neg (by rw [HT1.out];decide),if_neg (by rw [HT2.out];decide),if_pos (by rw [HQ3.out]),HQ3.out] at h1;injection h1 with h1 h2
    injection h2 with h2 h3
    exact ⟨h1,h2,h3⟩)
   go_wp2_with fail;go_ret3;exact ⟨retIII HZ.out.1 HZ.out.2.1 HZ.out.2.2,HBE.out⟩
 have HT3:Hid ((procsL m).2=true):=Lib.hid (by rw [HQ3.out]);clear HBE;go_wp2_with fail;rw [rounds_succ];go_wp2_with fail;refine (activeC _ (HCK.out _ HB4.out).1 (exprs_head HT2.out) (fun p hp=>by obtain ⟨i,hi⟩:=List.mem_iff_getElem?.1 hp;exact (procsL_tail HT3.out hi).1)).mono ?_;rintro e w5 ⟨rfl,hb⟩;have HB5:Hid (Below W.heap.size W w5):=Lib.hid (HB4.out.trans (hb.mono HB4.out.size));have HBE:Hid (Below w.heap.size w w5):=Lib.hid (HB.out.trans (HB5.out.mono HB.out.size));clear hb;obtain ⟨q,u,hq⟩:∃q u,activeL m= (q,u):=⟨_,_,rfl⟩;have HQ4:=Lib.hid hq;rw [hq];simp only;clear hq;cases u
 · have HZ:Hid (40=r1∧5=r2∧q=r3):=Lib.hid (by
    have h1:=HR.out;unfold checkL at h1;rw [if_neg (by rw [HT0.out];decide),if_neg (by rw [HT1.out];decide),if_neg (by rw [HT2.out];decide),if_neg (by rw [HT3.out];decide),if_pos (by rw [HQ4.out]),HQ4.out] at h1;injection h1 with h1 h2
    injection h2 with h2 h3
    exact ⟨h1,h2,h3⟩)
   go_wp2_with fail;go_ret3;exact ⟨retIII HZ.out.1 HZ.out.2.1 HZ.out.2.2,HBE.out⟩
 have HT4:Hid ((activeL m).2=true):=Lib.hid (by rw [HQ4.out]);clear HBE;go_wp2_with fail;rw [rounds_succ];go_wp2_with fail;refine (statementsC _ HPLE.out (HCK.out _ HB5.out).2.1 (HCK.out _ HB5.out).2.2 (EX.of HT2.out) (fun i x hx=>(procsL_tail HT3.out hx).2)).mono ?_;rintro e w6 ⟨rfl,hb⟩;have HBE:Hid (Below w.heap.size w w6):=Lib.hid ((HB.out.trans (HB5.out.mono HB.out.size)).trans hb);clear hb;obtain ⟨q,u,hq⟩:∃q u,statementsL m= (q,u):=⟨_,_,rfl⟩;have HQ5:=Lib.hid hq;rw [hq];simp only;clear hq;cases u
 · have HZ:Hid (40=r1∧6=r2∧q=r3):=Lib.hid (by
    have h1:=HR.out;unfold checkL at h1;rw [if_neg (by rw [HT0.out];decide),if_neg (by rw [HT1.out];decide),if_neg (by rw [HT2.out];decide),if_neg (by rw [HT3.out];decide),if_neg (by rw [HT4.out];decide),if_pos (by rw [HQ5.out]),HQ5.out] at h1;injection h1 with h1 h2
    injection h2 with h2 h3
    exact ⟨h1,h2,h3⟩)
   go_wp2_with fail;go_ret3;exact ⟨retIII HZ.out.1 HZ.out.2.1 HZ.out.2.2,HBE.out⟩
 have HT5:Hid ((statementsL m).2=true):=Lib.hid (by rw [HQ5.out]);go_wp2_with fail;have HZ:Hid (0=r1∧0=r2∧0=r3):=Lib.hid (by
  have h1:=HR.out;unfold checkL at h1;rw [if_neg (by rw [HT0.out];decide),if_neg (by rw [HT1.out];decide),if_neg (by rw [HT2.out];decide),if_neg (by rw [HT3.out];decide),if_neg (by rw [HT4.out];decide),if_neg (by rw [HT5.out];decide)] at h1;injection h1 with h1 h2
  injection h2 with h2 h3
  exact ⟨h1,h2,h3⟩)
 rw [rounds_succ];go_wp2_with fail;go_ret3;exact ⟨retIII HZ.out.1 HZ.out.2.1 HZ.out.2.2,HBE.out⟩
end Go.Proofs.YthfldokfnjpkmaaGreatDoor
