/- The second part: channels. -/
import Derived.Test.YthfldokfnjpkmaaGreatDoorM05
set_option linter.unusedVariables false
set_option linter.unusedSimpArgs false
namespace Go.Proofs.YthfldokfnjpkmaaGreatDoor
open Go.ChangeShapes Go.WideShapes Go.ChangeAt Go.RowKit
set_option maxHeartbeats 2000000 in
set_option maxRecDepth 100000 in
theorem channelsC {B p:Nat} {h:MH} {m:ModelD} (w:World) (hk:Ck B w p h m):
 Calls Tryz.prog 145 #[.pointer (some ⟨p,0,none⟩)] w fun e w'=>e= .returned (.tuple #[.int .i64 (channelsL m).1,.bool (channelsL m).2])∧Below w.heap.size w w':=by
 obtain ⟨go,gc,io,ic,so,sc,co,cc,po,pc,eo,ec⟩:=h;have HK:=Lib.hid hk;have c2:w.cell? ⟨p,2,none⟩=some (.slice so m.shapes.length sc):=hk.c2;have c3:w.cell? ⟨p,3,none⟩=some (.slice co m.chans.length cc):=hk.c3;have l1:=hk.md.shapes.1;have l2:=hk.md.chans.1;clear hk;by_cases hbad:32 < m.shapes.length∨32 < m.chans.length
 · have HV:Hid (channelsL m= (-1,false)):=Lib.hid (if_pos hbad);go_enter Tryz.func145,Tryz.ntmps145;go_wp2
   all_goals first | (exfalso;omega) | (go_ret2;exact ⟨retIB (by rw [HV.out]) (by rw [HV.out]),Below.refl _ _⟩)
 · have HV:Hid (channelsL m=match bad shapeB m.shapes with | some i=>((i:Int),false) | none=>idxB (bad (chanB m) m.chans)):=Lib.hid (if_neg hbad);have g1:¬32 < m.shapes.length:=fun h=>hbad (.inl h)
   have g2:¬32 < m.chans.length:=fun h=>hbad (.inr h)
   clear hbad;go_enter Tryz.func145,Tryz.ntmps145;go_wp2_with fail;clear c2 c3
   go_loopw [32] (fun iv W=>∃k:Nat,iv= .int .i64 k∧k≤m.shapes.length∧Hid (∀j (hj:j < m.shapes.length),j < k→shapeB m.shapes[j]=true)∧Hid (Below w.heap.size w W)) (fun iv _=>m.shapes.length - (intOf iv).toNat)
   case atStart=>exact ⟨0,rfl,by omega,Lib.hid fun j _ h=>by omega,Lib.hid (Below.refl _ _)⟩
   case round=>
    obtain ⟨k,rfl,hk,HJ,HBW⟩:=hrel;have hk0: (0:Int)≤k:=by omega
    by_cases hlt:k < m.shapes.length
    · have hlti: (k:Int) < m.shapes.length:=by omega
      have HKr:=Lib.hid (HK.out.below HBW.out);obtain ⟨g,off,hog,hgB,t0,fo,fc,t1,hF⟩:=HKr.out.md.shapes.cell hlt;simp only at hog;subst hog;have HBAD:Hid (shapeB m.shapes[k]=false→channelsL m= ((k:Int),false)):=Lib.hid fun h=>by
       rw [HV.out,bad_some hlt h (fun j hj hjk=>HJ.out j hj hjk)]
      have HGO:Hid (shapeB m.shapes[k]=true→∀j (hj:j < m.shapes.length),j < k+1→shapeB m.shapes[j]=true):=Lib.hid fun h j hj hjk=>by
       by_cases e:j=k
       · subst e;exact h
       · exact HJ.out j hj (by omega)
      obtain ⟨⟨room,F⟩,hs⟩:∃s,m.shapes[k]=s:=⟨_,rfl⟩;rw [hs] at t0 t1 hF HBAD HGO;simp only at t0 t1 hF;have hFl:=hF.1;have HF:=Lib.hid hF;clear hs hF;have HX:=Lib.hid (Bx.new wr #[.int .i64 room,.slice fo F.length fc] 102);by_cases hh:room < 0∨16 < room∨F.length < 1∨8 < F.length
      · have HZ:=Lib.hid (HBAD.out (by unfold shapeB;rw [decide_eq_true (by exact hh)];rfl));go_wp2
        all_goals first | (exfalso;omega) | (go_ret2;exact ⟨retIB (by rw [HZ.out]) (by rw [HZ.out]),HBW.out.trans (HX.out.bel.mono HBW.out.size)⟩)
      · have HSH:Hid (shapeB ⟨room,F⟩=F.all tyP):=Lib.hid (by unfold shapeB;rw [decide_eq_false (by exact hh)];simp);have a1:¬room < 0:=fun h=>hh (.inl h)
        have a2:¬16 < room:=fun h=>hh (.inr (.inl h))
        have a3:¬F.length < 1:=fun h=>hh (.inr (.inr (.inl h)))
        have a4:¬8 < F.length:=fun h=>hh (.inr (.inr (.inr h)))
        clear hh;go_wp2_with fail;have HB1:Hid (Below wr.heap.size wr (wr.alloc (Obj.cells #[.int .i64 room,.slice fo F.length fc] 102))):=Lib.hid (ball _);generalize wr.alloc (Obj.cells #[.int .i64 room,.slice fo F.length fc] 102)=W1 at HX HB1 ⊢;clear t0 t1
        go_loopw [61] (fun iv W=>∃i:Nat,iv= .int .i64 i∧i≤F.length∧Hid (∀j (hj:j < F.length),j < i→tyP F[j]=true)∧Hid (Below wr.heap.size wr W)) (fun iv _=>F.length - (intOf iv).toNat)
        case atStart=>exact ⟨0,rfl,by omega,Lib.hid fun j _ h=>by omega,HB1⟩
        case round=>
         rename_i wr0
         obtain ⟨i,rfl,hi,HI,HBI⟩:=hrel;have hi0: (0:Int)≤i:=by omega
         by_cases hli:i < F.length
         · have hlii: (i:Int) < F.length:=by omega
           have HFr:=Lib.hid (HF.out.mono fun _ _ _ hg=>tyAt.below (HBI.out.mono (by have:=HKr.out.le;have:=HKr.out.lt;omega)) hg);obtain ⟨gf,offf,hof,hgf,u0,u1⟩:=HFr.out.cell hli;subst hof;obtain ⟨⟨b,sg⟩,hbs⟩:∃t,F[i]=t:=⟨_,rfl⟩;rw [hbs] at u0 u1;simp only at u0 u1;have HBS:=Lib.hid hbs;have HX2:=Lib.hid (Bx.new wr #[.int .i64 b,.bool sg] 138);clear hbs;go_wp2_with fail;refine (typeC b sg _).mono ?_;rintro e W3 ⟨rfl,hb3⟩;have HB3:=Lib.hid (HBI.out.trans ((HX2.out.bel.trans (hb3.mono HX2.out.bel.size)).mono HBI.out.size));clear hb3 HX2;obtain ⟨u,hu⟩:∃u,tyB b sg=u:=⟨_,rfl⟩;rw [hu];have HU:=Lib.hid hu;clear hu;cases u
           · have HZ:=Lib.hid (HBAD.out (by rw [HSH.out];exact all_bad hli (by rw [HBS.out];exact HU.out)));go_wp2_with fail;go_ret2;exact ⟨retIB (by rw [HZ.out]) (by rw [HZ.out]),HBW.out.trans (HB3.out.mono HBW.out.size)⟩
           · go_wp2_with fail;go_roundw;case rel=>exact ⟨i+1,by go_num,by omega,Lib.hid fun j hj hji=>by
              by_cases e:j=i
              · subst e;rw [HBS.out];exact HU.out
              · exact HI.out j hj (by omega),HB3⟩
             case measure=>simp [intOf];omega
         · have hlii:¬ (i:Int) < F.length:=by omega
           have HZ:=Lib.hid (HGO.out (by rw [HSH.out];exact all_of fun j hj=>HI.out j hj (by omega)));have HBE:=Lib.hid (HBW.out.trans (HBI.out.mono HBW.out.size));go_wp2_with fail;go_roundw;case rel=>exact ⟨k+1,by go_num,by omega,HZ,HBE⟩
           case measure=>simp [intOf];omega
    · have hlti:¬ (k:Int) < m.shapes.length:=by omega
      have HV2:Hid (channelsL m=idxB (bad (chanB m) m.chans)):=Lib.hid (by rw [HV.out,bad_none fun j hj=>HJ.out j hj (by omega)]);have HKr:=Lib.hid (HK.out.below HBW.out);have d3:wr.cell? ⟨p,3,none⟩=some (.slice co m.chans.length cc):=HKr.out.c3;clear HV HJ;go_wp2_with fail;clear d3
      go_loop [77] (fun iv=>∃k:Nat,iv= .int .i64 k∧k≤m.chans.length∧Hid (∀j (hj:j < m.chans.length),j < k→chanB m m.chans[j]=true)) (fun iv=>m.chans.length - (intOf iv).toNat)
      case atStart=>exact ⟨0,rfl,by omega,Lib.hid fun j _ h=>by omega⟩
      case round=>
       obtain ⟨i,rfl,hi,HI⟩:=hrel;have hi0: (0:Int)≤i:=by omega
       by_cases hli:i < m.chans.length
       · have hlii: (i:Int) < m.chans.length:=by omega
         obtain ⟨g,off,hog,hgB,t0⟩:=HKr.out.md.chans.cell hli;simp only at hog;subst hog;obtain ⟨q,hq⟩:∃q,m.chans[i]=q:=⟨_,rfl⟩;have e0:wr.cell? ⟨g,off+i,none⟩=some (.int .i64 q):=by
          have:=t0;unfold intAt at this;rw [Nat.mul_one,hq] at this;exact this
         have d2:wr.cell? ⟨p,2,none⟩=some (.slice so m.shapes.length sc):=HKr.out.c2;have HBAD:Hid (¬ (0≤q∧q < m.shapes.length)→channelsL m= ((i:Int),false)):=Lib.hid fun h=>by
          rw [HV2.out,bad_some hli (by rw [hq];exact decide_eq_false h) (fun j hj hjk=>HI.out j hj hjk)];rfl
         have HGO:Hid (0≤q∧q < m.shapes.length→∀j (hj:j < m.chans.length),j < i+1→chanB m m.chans[j]=true):=Lib.hid fun h j hj hjk=>by
          by_cases e:j=i
          · subst e;rw [hq];exact decide_eq_true h
          · exact HI.out j hj (by omega)
         clear t0 hq;by_cases hh:0≤q∧q < m.shapes.length
         · have HZ:=Lib.hid (HGO.out hh);obtain ⟨h1,h2⟩:=hh;go_wp2_with fail;go_round;case rel=>exact ⟨i+1,by go_num,by omega,HZ⟩
           case measure=>simp [intOf];omega
         · have HZ:=Lib.hid (HBAD.out hh);go_wp2
           all_goals first | (exfalso;omega) | (go_ret2;exact ⟨retIB (by rw [HZ.out]) (by rw [HZ.out]),HBW.out⟩)
       · have hlii:¬ (i:Int) < m.chans.length:=by omega
         have HZ:Hid (channelsL m= (0,true)):=Lib.hid (by rw [HV2.out,bad_none fun j hj=>HI.out j hj (by omega)];rfl);go_wp2_with fail;go_ret2;exact ⟨retIB (by rw [HZ.out]) (by rw [HZ.out]),HBW.out⟩
end Go.Proofs.YthfldokfnjpkmaaGreatDoor
namespace Go.Proofs.YthfldokfnjpkmaaGreatDoor
open Go.ChangeShapes Go.WideShapes Go.ChangeAt Go.RowKit
theorem procAt.pc {B g a:Nat} {w:World} {p:ProcD} (h:procAt B w g a p):∃fo fc io ic lo lc,(w.cell? ⟨g,a,none⟩=some (.string p.name)∧w.cell? ⟨g,a+1,none⟩=some (.int .i64 p.params)∧w.cell? ⟨g,a+2,none⟩=some (.slice fo p.frame.length fc)∧w.cell? ⟨g,a+3,none⟩=some (.slice io p.init.length ic)∧w.cell? ⟨g,a+4,none⟩=some (.slice lo p.locs.length lc)∧w.cell? ⟨g,a+5,none⟩=some (.int .i64 p.start)∧w.cell? ⟨g,a+6,none⟩=some (.int .i64 p.final)∧w.cell? ⟨g,a+7,none⟩=some (.int .i64 p.active)∧w.cell? ⟨g,a+8,none⟩=some (.int .i64 p.prio)∧w.cell? ⟨g,a+9,none⟩=some (.int .i64 p.provided))∧Row B fo 2 (tyAt w) p.frame∧Row B io 1 (intAt w) p.init∧Row B lo 7 (locAt B w) p.locs:=by
 obtain ⟨fo,fc,f1,f2⟩:=h.frame;obtain ⟨io,ic,i1,i2⟩:=h.init;obtain ⟨lo,lc,l1,l2⟩:=h.locs;exact ⟨fo,fc,io,ic,lo,lc,⟨h.c0,h.c1,f1,i1,l1,h.c5,h.c6,h.c7,h.c8,h.c9⟩,f2,i2,l2⟩
set_option maxHeartbeats 1000000 in
set_option maxRecDepth 100000 in
theorem activeC {B k:Nat} {h:MH} {m:ModelD} (w:World) (hk:Ck B w k h m) (hn:m.procs.length≤16) (ha:∀p ∈ m.procs,0≤p.active∧p.active≤16):
 Calls Tryz.prog 148 #[.pointer (some ⟨k,0,none⟩)] w fun e w'=>e= .returned (.tuple #[.int .i64 (activeL m).1,.bool (activeL m).2])∧Below w.heap.size w w':=by
 obtain ⟨go,gc,io,ic,so,sc,co,cc,po,pc,eo,ec⟩:=h;have HK:=Lib.hid hk;have c4:w.cell? ⟨k,4,none⟩=some (.slice po m.procs.length pc):=hk.c4;have HA:=Lib.hid ha;clear hk ha;go_enter Tryz.func148,Tryz.ntmps148;go_wp2_with fail;clear c4
 go_loopw [4,13] (fun sv iv W=>∃ (i:Nat) (s:Int),iv= .int .i64 i∧sv= .int .i64 s∧i≤m.procs.length∧0≤s∧s≤16*i∧Hid (s+ ((m.procs.drop i).map (·.active)).sum=activeS m)∧Hid (Below w.heap.size w W)) (fun _ iv _=>m.procs.length - (intOf iv).toNat)
 case atStart=>exact ⟨0,0,rfl,rfl,by omega,by omega,by omega,Lib.hid (by simp [activeS]),Lib.hid (Below.refl _ _)⟩
 case round=>
  obtain ⟨i,s,rfl,rfl,hi,hs0,hs1,HS,HB⟩:=hrel;have hi0: (0:Int)≤i:=by omega
  by_cases hlt:i < m.procs.length
  · have hlti: (i:Int) < m.procs.length:=by omega
    obtain ⟨p,hp⟩:∃p,m.procs[i]? =some p:=⟨_,List.getElem?_eq_getElem hlt⟩;obtain ⟨g,off,hog,hgB,hpa⟩:=(HK.out.below HB.out).md.procs.get hp;simp only at hog;subst hog;obtain ⟨fo,fc,io',ic',lo,lc,⟨d0,d1,d2,d3,d4,d5,d6,d7,d8,d9⟩,-,-,-⟩:=hpa.pc;have hpb:=HA.out p (List.mem_of_getElem? hp);have hpb1:=hpb.1;have hpb2:=hpb.2;have HN:Hid (s+p.active+ ((m.procs.drop (i+1)).map (·.active)).sum=activeS m):=Lib.hid (by
     have h0:=HS.out;rw [mk_drop hp,List.map_cons,List.sum_cons] at h0;omega)
    have HBN:∀o,Hid (Below w.heap.size w (wr.alloc o)):=fun o=>Lib.hid (ball' HB.out o (Nat.le_refl _))
    have HBB:=Lib.hid HBN;clear HBN hpb hpa hp;go_wp2_with fail;go_roundw;case rel=>exact ⟨i+1,s+p.active,by go_num,by go_num,by omega,by omega,by omega,HN,HBB.out _⟩
    case measure=>simp [intOf];omega
  · have hlti:¬ (i:Int) < m.procs.length:=by omega
    have HZ:Hid (s=activeS m):=Lib.hid (by
     have h0:=HS.out;rw [List.drop_eq_nil_of_le (by omega)] at h0;simpa using h0)
    go_wp2_with fail;go_ret2;exact ⟨retIB rfl (by unfold activeL;rw [HZ.out]),HB.out⟩
set_option maxHeartbeats 1000000 in
set_option maxRecDepth 100000 in
theorem looksOnC {B:Nat} (fo io lo:Option Addr) (fc ic lc:Nat) (p:ProcD) (w:World) (hB:B≤w.heap.size) (hl:Row B lo 7 (locAt B w) p.locs):
 Calls Tryz.prog 176 #[.agg #[.string p.name,.int .i64 p.params,.slice fo p.frame.length fc,.slice io p.init.length ic,.slice lo p.locs.length lc,.int .i64 p.start,.int .i64 p.final,.int .i64 p.active,.int .i64 p.prio,.int .i64 p.provided]] w fun e w'=>e= .returned (.bool (looksOnB p))∧Below w.heap.size w w':=by
 have HL:=Lib.hid hl;have l1:=hl.1;have HX:=Lib.hid (Bx.new w #[.string p.name,.int .i64 p.params,.slice fo p.frame.length fc,.slice io p.init.length ic,.slice lo p.locs.length lc,.int .i64 p.start,.int .i64 p.final,.int .i64 p.active,.int .i64 p.prio,.int .i64 p.provided] 73);clear hl;go_enter Tryz.func176,Tryz.ntmps176;go_wp2_with fail;generalize w.alloc (Obj.cells #[.string p.name,.int .i64 p.params,.slice fo p.frame.length fc,.slice io p.init.length ic,.slice lo p.locs.length lc,.int .i64 p.start,.int .i64 p.final,.int .i64 p.active,.int .i64 p.prio,.int .i64 p.provided] 73)=W0 at HX ⊢
 go_loopw [8] (fun iv W=>∃i:Nat,iv= .int .i64 i∧i≤p.locs.length∧Hid (∀j (hj:j < p.locs.length),j < i→looksLocB p.locs[j]=true)∧Hid (Bx w #[.string p.name,.int .i64 p.params,.slice fo p.frame.length fc,.slice io p.init.length ic,.slice lo p.locs.length lc,.int .i64 p.start,.int .i64 p.final,.int .i64 p.active,.int .i64 p.prio,.int .i64 p.provided] 73 W)) (fun iv _=>p.locs.length - (intOf iv).toNat)
 case atStart=>exact ⟨0,rfl,by omega,Lib.hid fun j _ h=>by omega,HX⟩
 case round=>
  clear HX;obtain ⟨i,rfl,hi,HJ,HB⟩:=hrel;have hi0: (0:Int)≤i:=by omega
  by_cases hlt:i < p.locs.length
  · have hlti: (i:Int) < p.locs.length:=by omega
    have HBB:Hid (∀o,Bx w #[.string p.name,.int .i64 p.params,.slice fo p.frame.length fc,.slice io p.init.length ic,.slice lo p.locs.length lc,.int .i64 p.start,.int .i64 p.final,.int .i64 p.active,.int .i64 p.prio,.int .i64 p.provided] 73 (wr.alloc o)):=Lib.hid fun o=>HB.out.below (ball o)
    obtain ⟨g,off,hog,hgB,hla⟩:=(HL.out.mono fun _ _ _ hg=>locAt.below (HB.out.bel.mono hB) hg).cell hlt;subst hog;have HBAD:Hid (looksLocB p.locs[i]=false→looksOnB p=false):=Lib.hid fun h=>by
     unfold looksOnB;rw [all_bad hlt h];rfl
    have HGO:Hid (looksLocB p.locs[i]=true→∀j (hj:j < p.locs.length),j < i+1→looksLocB p.locs[j]=true):=Lib.hid fun h j hj hjk=>by
     by_cases e:j=i
     · subst e;exact h
     · exact HJ.out j hj (by omega)
    obtain ⟨l,hl⟩:∃l,p.locs[i]=l:=⟨_,rfl⟩;rw [hl] at hla HBAD HGO;obtain ⟨oo,oc,o1,-⟩:=hla.out;obtain ⟨eo,ec,e1,-⟩:=hla.esc;have f2:=hla.c2;have f3:=hla.c3;have f4:=hla.c4;have f5:=hla.c5;have f6:=hla.c6;obtain ⟨lout,lesc,la,ld,lf,lac,lpr⟩:=l;simp only at o1 e1 f2 f3 f4 f5 f6;clear hla hl;by_cases h1:0 < lesc.length
    · have HZ:=Lib.hid (HBAD.out (by unfold looksLocB;rw [decide_eq_true (by exact h1)];rfl));go_wp2_with fail;go_ret;exact ⟨retB HZ.out.symm,(HBB.out _).bel⟩
    · cases la
      · cases ld
        · have HZ:=Lib.hid (HGO.out (by unfold looksLocB;rw [decide_eq_false (by exact h1)];rfl));go_wp2_with fail;go_roundw;case rel=>exact ⟨i+1,by go_num,by omega,HZ,Lib.hid (HBB.out _)⟩
          case measure=>simp [intOf];omega
        · have HZ:=Lib.hid (HBAD.out (by unfold looksLocB;rw [decide_eq_false (by exact h1)];rfl));go_wp2_with fail;go_ret;exact ⟨retB HZ.out.symm,(HBB.out _).bel⟩
      · have HZ:=Lib.hid (HBAD.out (by unfold looksLocB;rw [decide_eq_false (by exact h1)];rfl));go_wp2_with fail;go_ret;exact ⟨retB HZ.out.symm,(HBB.out _).bel⟩
  · have hlti:¬ (i:Int) < p.locs.length:=by omega
    have HA:Hid (looksOnB p=decide (p.frame.length=0∧p.params=0∧p.active=0∧p.provided= -1)):=Lib.hid (by unfold looksOnB;rw [all_of fun j hj=>HJ.out j hj (by omega)];simp);have b1:wr.cell? ⟨w.heap.size,1,none⟩=some (.int .i64 p.params):=HB.out.cell rfl;have b2:wr.cell? ⟨w.heap.size,2,none⟩=some (.slice fo p.frame.length fc):=HB.out.cell rfl;have b7:wr.cell? ⟨w.heap.size,7,none⟩=some (.int .i64 p.active):=HB.out.cell rfl;have b9:wr.cell? ⟨w.heap.size,9,none⟩=some (.int .i64 p.provided):=HB.out.cell rfl;have HBE:=Lib.hid HB.out.bel;by_cases q0:p.frame.length=0
    · have d0: ((p.frame.length:Int) == 0)=true:=by rw [beq_iff_eq];omega
      by_cases q1:p.params=0
      · have d1: (p.params == 0)=true:=by rw [beq_iff_eq];omega
        by_cases q2:p.active=0
        · have d2: (p.active == 0)=true:=by rw [beq_iff_eq];omega
          by_cases q3:p.provided= -1
          · have d3: (p.provided == -1)=true:=by rw [beq_iff_eq];omega
            have HZ:Hid (looksOnB p=true):=Lib.hid (by rw [HA.out];exact decide_eq_true ⟨q0,q1,q2,q3⟩);clear q0 q1 q2 q3;go_wp2_with fail;go_ret;exact ⟨retB HZ.out.symm,HBE.out⟩
          · have d3: (p.provided == -1)=false:=by rw [beq_eq_false_iff_ne];omega
            have HZ:Hid (looksOnB p=false):=Lib.hid (by rw [HA.out];exact decide_eq_false (by omega));clear q0 q1 q2 q3;go_wp2_with fail;go_ret;exact ⟨retB HZ.out.symm,HBE.out⟩
        · have d2: (p.active == 0)=false:=by rw [beq_eq_false_iff_ne];omega
          have HZ:Hid (looksOnB p=false):=Lib.hid (by rw [HA.out];exact decide_eq_false (by omega));clear q0 q1 q2;go_wp2_with fail;go_ret;exact ⟨retB HZ.out.symm,HBE.out⟩
      · have d1: (p.params == 0)=false:=by rw [beq_eq_false_iff_ne];omega
        have HZ:Hid (looksOnB p=false):=Lib.hid (by rw [HA.out];exact decide_eq_false (by omega));clear q0 q1;go_wp2_with fail;go_ret;exact ⟨retB HZ.out.symm,HBE.out⟩
    · have d0: ((p.frame.length:Int) == 0)=false:=by rw [beq_eq_false_iff_ne];omega
      have HZ:Hid (looksOnB p=false):=Lib.hid (by rw [HA.out];exact decide_eq_false (by omega));clear q0;go_wp2_with fail;go_ret;exact ⟨retB HZ.out.symm,HBE.out⟩
set_option maxHeartbeats 4000000 in
set_option maxRecDepth 100000 in
theorem frameC {B k:Nat} {h:MH} {m:ModelD} (fo io lo:Option Addr) (fc ic lc:Nat) (p:ProcD) (w:World) (hk:Ck B w k h m) (hf:Row B fo 2 (tyAt w) p.frame) (hi:Row B io 1 (intAt w) p.init):
 Calls Tryz.prog 174 #[.pointer (some ⟨k,0,none⟩),.agg #[.string p.name,.int .i64 p.params,.slice fo p.frame.length fc,.slice io p.init.length ic,.slice lo p.locs.length lc,.int .i64 p.start,.int .i64 p.final,.int .i64 p.active,.int .i64 p.prio,.int .i64 p.provided]] w fun e w'=>e= .returned (.bool (frameB m p))∧Below w.heap.size w w':=by
 have HK:=Lib.hid hk;have HF:=Lib.hid hf;have HI:=Lib.hid hi;have l1:=hf.1;have l2:=hi.1;have HX:=Lib.hid (Bx.new w #[.string p.name,.int .i64 p.params,.slice fo p.frame.length fc,.slice io p.init.length ic,.slice lo p.locs.length lc,.int .i64 p.start,.int .i64 p.final,.int .i64 p.active,.int .i64 p.prio,.int .i64 p.provided] 73);have hBw:B≤w.heap.size:=by have:=hk.le;have:=hk.lt;omega
 have l3:=hk.md.exprs.1;clear hk hf hi;by_cases hbad:128 < p.frame.length∨p.init.length≠p.frame.length∨p.params < 0∨ (p.frame.length:Int) < p.params
 · have HV:Hid (frameB m p=false):=Lib.hid (by unfold frameB frameHeadB;rw [decide_eq_true (by exact hbad)];rfl);by_cases h1:128 < p.frame.length
   · clear hbad;go_enter Tryz.func174,Tryz.ntmps174;go_wp2
     all_goals first | (exfalso;omega) | (go_ret;exact ⟨retB HV.out.symm,HX.out.bel⟩)
   · by_cases h2:p.init.length=p.frame.length
     · have hn1: ((p.init.length:Int) != (p.frame.length:Int))=false:=by simp;omega
       have hpp:p.params < 0∨ (p.frame.length:Int) < p.params:=by omega
       clear hbad h2;go_enter Tryz.func174,Tryz.ntmps174;go_wp2
       all_goals first | (exfalso;omega) | (go_ret;exact ⟨retB HV.out.symm,HX.out.bel⟩)
     · have hn1: ((p.init.length:Int) != (p.frame.length:Int))=true:=by rw [bne_iff_ne];omega
       clear hbad h2;go_enter Tryz.func174,Tryz.ntmps174;go_wp2
       all_goals first | (exfalso;omega) | (go_ret;exact ⟨retB HV.out.symm,HX.out.bel⟩)
 · have HV:Hid (frameB m p= ((p.frame.zip p.init).all fitZ && frameTailB m p)):=Lib.hid (by unfold frameB frameHeadB;rw [decide_eq_false (by exact hbad)];simp);have g1:¬128 < p.frame.length:=fun h=>hbad (.inl h)
   have g2:p.init.length=p.frame.length:=by omega
   have g3:¬p.params < 0:=fun h=>hbad (.inr (.inr (.inl h)))
   have g4:¬ (p.frame.length:Int) < p.params:=fun h=>hbad (.inr (.inr (.inr h)))
   have hn1: ((p.init.length:Int) != (p.frame.length:Int))=false:=by simp;omega
   have i1: (p.init.length:Int)≤p.frame.length:=by omega
   have i2: (p.frame.length:Int)≤p.init.length:=by omega
   have HG2:=Lib.hid g2;clear hbad g2;go_enter Tryz.func174,Tryz.ntmps174;go_wp2_with fail;generalize w.alloc (Obj.cells #[.string p.name,.int .i64 p.params,.slice fo p.frame.length fc,.slice io p.init.length ic,.slice lo p.locs.length lc,.int .i64 p.start,.int .i64 p.final,.int .i64 p.active,.int .i64 p.prio,.int .i64 p.provided] 73)=W0 at HX ⊢;clear hn1
   go_loopw [36] (fun iv W=>∃i:Nat,iv= .int .i64 i∧i≤p.frame.length∧Hid (∀j (hj:j < (p.frame.zip p.init).length),j < i→fitZ (p.frame.zip p.init)[j]=true)∧Hid (Bx w #[.string p.name,.int .i64 p.params,.slice fo p.frame.length fc,.slice io p.init.length ic,.slice lo p.locs.length lc,.int .i64 p.start,.int .i64 p.final,.int .i64 p.active,.int .i64 p.prio,.int .i64 p.provided] 73 W)) (fun iv _=>p.frame.length - (intOf iv).toNat)
   case atStart=>exact ⟨0,rfl,by omega,Lib.hid fun j _ h=>by omega,HX⟩
   case round=>
    clear HX;obtain ⟨i,rfl,hi,HJ,HB⟩:=hrel;have hi0: (0:Int)≤i:=by omega
    by_cases hlt:i < p.frame.length
    · have hlti: (i:Int) < p.frame.length:=by omega
      have hlt2:i < p.init.length:=by have:=HG2.out;omega
      have hlti2: (i:Int) < p.init.length:=by omega
      obtain ⟨g,off,hog,hgB,t0,t1⟩:=(HF.out.mono fun _ _ _ hg=>tyAt.below (HB.out.bel.mono hBw) hg).cell hlt;obtain ⟨g2,off2,hog2,hgB2,e2⟩:=(HI.out.mono fun _ _ _ hg=>intAt.below (HB.out.bel.mono hBw) hg).cell hlt2;subst hog hog2;obtain ⟨hz,hzip⟩:=zip_get hlt hlt2;obtain ⟨⟨b,sg⟩,hbs⟩:∃t,p.frame[i]=t:=⟨_,rfl⟩;obtain ⟨v,hv⟩:∃v,p.init[i]=v:=⟨_,rfl⟩;rw [hbs] at t0 t1 hzip;rw [hv] at hzip;have HBAD:Hid (fitB b sg v=false→frameB m p=false):=Lib.hid fun h=>by
       rw [HV.out,all_bad hz (by rw [hzip];exact h)];rfl
      have HGO:Hid (fitB b sg v=true→∀j (hj:j < (p.frame.zip p.init).length),j < i+1→fitZ (p.frame.zip p.init)[j]=true):=Lib.hid fun h j hj hjk=>by
       by_cases e:j=i
       · subst e;rw [hzip];exact h
       · exact HJ.out j hj (by omega)
      have e3:wr.cell? ⟨g2,off2+i,none⟩=some (.int .i64 v):=by
       have:=e2;unfold intAt at this;rw [Nat.mul_one,hv] at this;exact this
      have hc1:=Lib.cell?_alloc_some (Obj.cells #[.int .i64 b,.bool sg] 138) e3;simp only at t0 t1;have HX:=Lib.hid (Bx.new wr #[.int .i64 b,.bool sg] 138);have HB1:=Lib.hid (HB.out.below (ball (Obj.cells #[.int .i64 b,.bool sg] 138)));clear hbs hv e2 hz hzip;go_wp2_with fail;generalize wr.alloc (Obj.cells #[.int .i64 b,.bool sg] 138)=W at hc1 HX HB1 ⊢;have x1:W.cell? ⟨wr.heap.size,0,none⟩=some (.int .i64 b):=HX.out.cell rfl;have x2:W.cell? ⟨wr.heap.size,1,none⟩=some (.bool sg):=HX.out.cell rfl;have x3:W.cell? ⟨w.heap.size,3,none⟩=some (.slice (some ⟨g2,off2,none⟩) p.init.length ic):=HB1.out.cell rfl;go_still_tail 6,(by kernel_rfl);change wpList _ _ _ _ _ W.drew;have HB2:=Lib.hid (HB1.out.below (Below.refl _ _).drew);generalize W.drew=W2 at HB2 ⊢;clear x1 x2 x3 hc1 t0 t1 e3;go_wp2_with fail;refine (fitsC b sg v W2).mono ?_;rintro e W3 ⟨rfl,hb3⟩;have HB3:=Lib.hid (HB2.out.below hb3);clear hb3;obtain ⟨u,hu⟩:∃u,fitB b sg v=u:=⟨_,rfl⟩;rw [hu];have HU:=Lib.hid hu;clear hu;cases u
      · have HZ:=Lib.hid (HBAD.out HU.out);go_wp2_with fail;go_ret;exact ⟨retB HZ.out.symm,HB3.out.bel⟩
      · have HZ:=Lib.hid (HGO.out HU.out);go_wp2_with fail;go_roundw;case rel=>exact ⟨i+1,by go_num,by omega,HZ,HB3⟩
        case measure=>simp [intOf];omega
    · have hlti:¬ (i:Int) < p.frame.length:=by omega
      have HA:Hid (frameB m p=frameTailB m p):=Lib.hid (by rw [HV.out,all_of fun j hj=>HJ.out j hj (by rw [List.length_zip] at hj;omega)];simp);have b7:wr.cell? ⟨w.heap.size,7,none⟩=some (.int .i64 p.active):=HB.out.cell rfl;have b8:wr.cell? ⟨w.heap.size,8,none⟩=some (.int .i64 p.prio):=HB.out.cell rfl;have b9:wr.cell? ⟨w.heap.size,9,none⟩=some (.int .i64 p.provided):=HB.out.cell rfl;have c6:wr.cell? ⟨k,6,none⟩=some (.slice h.eo m.exprs.length h.ec):=(HK.out.bx HB.out).c6;go_wp2_with fail;by_cases q0:0≤p.active
      · have d0:decide (0≤p.active)=true:=decide_eq_true q0;by_cases q1:p.active≤16
        · have d1:decide (p.active≤16)=true:=decide_eq_true q1;by_cases q2:1≤p.prio
          · have d2:decide (1≤p.prio)=true:=decide_eq_true q2;by_cases q3:p.prio≤255
            · have d3:decide (p.prio≤255)=true:=decide_eq_true q3;by_cases q4: -1≤p.provided
              · have d4:decide (-1≤p.provided)=true:=decide_eq_true q4;by_cases q5:p.provided < (m.exprs.length:Int)
                · have d5:decide (p.provided < (m.exprs.length:Int))=true:=decide_eq_true q5;have HZ:Hid (frameB m p=true):=Lib.hid (by rw [HA.out];unfold frameTailB;exact decide_eq_true ⟨q0,q1,q2,q3,q4,q5⟩);clear q0 q1 q2 q3 q4 q5;go_wp2_with fail;go_quiet (fail);go_wp2_with fail;go_ret;exact ⟨retB HZ.out.symm,bdrew HB.out.bel _⟩
                · have d5:decide (p.provided < (m.exprs.length:Int))=false:=decide_eq_false q5;have HZ:Hid (frameB m p=false):=Lib.hid (by rw [HA.out];unfold frameTailB;exact decide_eq_false (by omega));clear q0 q1 q2 q3 q4 q5;go_wp2_with fail;go_quiet (fail);go_wp2_with fail;go_ret;exact ⟨retB HZ.out.symm,bdrew HB.out.bel _⟩
              · have d4:decide (-1≤p.provided)=false:=decide_eq_false q4;have HZ:Hid (frameB m p=false):=Lib.hid (by rw [HA.out];unfold frameTailB;exact decide_eq_false (by omega));clear q0 q1 q2 q3 q4;go_wp2_with fail;go_quiet (fail);go_wp2_with fail;go_ret;exact ⟨retB HZ.out.symm,bdrew HB.out.bel _⟩
            · have d3:decide (p.prio≤255)=false:=decide_eq_false q3;have HZ:Hid (frameB m p=false):=Lib.hid (by rw [HA.out];unfold frameTailB;exact decide_eq_false (by omega));clear q0 q1 q2 q3;go_wp2_with fail;go_quiet (fail);go_wp2_with fail;go_ret;exact ⟨retB HZ.out.symm,bdrew HB.out.bel _⟩
          · have d2:decide (1≤p.prio)=false:=decide_eq_false q2;have HZ:Hid (frameB m p=false):=Lib.hid (by rw [HA.out];unfold frameTailB;exact decide_eq_false (by omega));clear q0 q1 q2;go_wp2_with fail;go_quiet (fail);go_wp2_with fail;go_ret;exact ⟨retB HZ.out.symm,bdrew HB.out.bel _⟩
        · have d1:decide (p.active≤16)=false:=decide_eq_false q1;have HZ:Hid (frameB m p=false):=Lib.hid (by rw [HA.out];unfold frameTailB;exact decide_eq_false (by omega));clear q0 q1;go_wp2_with fail;go_quiet (fail);go_wp2_with fail;go_ret;exact ⟨retB HZ.out.symm,bdrew HB.out.bel _⟩
      · have d0:decide (0≤p.active)=false:=decide_eq_false q0;have HZ:Hid (frameB m p=false):=Lib.hid (by rw [HA.out];unfold frameTailB;exact decide_eq_false (by omega));clear q0;go_wp2_with fail;go_quiet (fail);go_wp2_with fail;go_ret;exact ⟨retB HZ.out.symm,bdrew HB.out.bel _⟩
end Go.Proofs.YthfldokfnjpkmaaGreatDoor
