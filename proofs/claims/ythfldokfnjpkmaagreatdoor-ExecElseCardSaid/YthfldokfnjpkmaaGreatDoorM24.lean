/- state.Copy: the same state, in memory of one's own. -/
import Derived.Test.YthfldokfnjpkmaaGreatDoorM23
import Derived.Test.YthfldokfnjpkmaaGreatDoorM01
import Derived.Test.YthfldokfnjpkmaaGreatDoorM14
set_option linter.unusedVariables false
set_option linter.unusedSimpArgs false
namespace Go.Proofs.YthfldokfnjpkmaaGreatDoor
open Go.ChangeShapes Go.WideShapes Go.ChangeAt Go.RowKit
theorem OI.start {w0 W1 W2 W3 W4:World} {s:StateD} {hs:SH} {go co:Option Addr} {gc cc:Nat} {X0:List Value}
 (e1:W1= (w0.alloc (.cells (sCells hs s) 33)).alloc (.cells #[.slice none 0 0,.slice none 0 0,.slice none 0 0,.int .i64 0,.int .i64 0,.int .i64 0] 33))
 (hb2:Below W1.heap.size W1 W2) (hr2:W2.ownsRow W1.heap.size 2 1 (.slice go s.globals.length gc) s.globals.length (intsV s.globals))
 (e3:W3=W2.setCell ⟨w0.heap.size,0,none⟩ (.slice go s.globals.length gc))
 (hb4:Below W3.heap.size W3 W4) (hr4:W4.ownsRow W3.heap.size 81 2 (.slice co s.chans.length cc) s.chans.length X0):
 OI w0 s (.slice go s.globals.length gc) co cc (.slice hs.po s.procs.length hs.pc) X0 0 (W4.setCell ⟨w0.heap.size,1,none⟩ (.slice co s.chans.length cc)):=by
 have k1:W1.heap[w0.heap.size]? =some (.cells (sCells hs s) 33 (0,0)):=by rw [e1];exact (Below.heap_alloc _ _ _ (by simp)).trans (heap_alloc_new _ _)
 have k2:W1.heap[w0.heap.size+1]? =some (.cells #[.slice none 0 0,.slice none 0 0,.slice none 0 0,.int .i64 0,.int .i64 0,.int .i64 0] 33 (0,0)):=by
  have h:=heap_alloc_new (w0.alloc (.cells (sCells hs s) 33)) (.cells #[.slice none 0 0,.slice none 0 0,.slice none 0 0,.int .i64 0,.int .i64 0,.int .i64 0] 33);rw [World.size_alloc] at h;rw [e1];exact h
 have hbel:Below w0.heap.size w0 W1:=by rw [e1];exact ((Below.refl _ _).alloc (Nat.le_refl _) _).alloc (by simp) _
 have c0:Cp w0 s (.slice hs.go s.globals.length hs.gc) (.slice hs.co s.chans.length hs.cc) (.slice hs.po s.procs.length hs.pc) (fun _=>rowNil) W1:=⟨Own.nil _ _,fun _=>by simp [rowNil],k1,k2,hbel⟩;have c1:=c0.head hb2 kG ⟨2,1,.slice go s.globals.length gc,s.globals.length,intsV s.globals⟩ hr2 (by dsimp only;decide) 0 (gv':= .slice go s.globals.length gc) rfl;dsimp only at c1;rw [←e3] at c1;have c2:=c1.head hb4 kC ⟨81,2,.slice co s.chans.length cc,s.chans.length,X0⟩ hr4 (by dsimp only;decide) 1 (cv':= .slice co s.chans.length cc) rfl;refine ⟨_,X0,c2, ?_, ?_,fun j hj hji=>by omega,fun j _=>⟨rfl,rfl⟩⟩
 · rw [upd_ne _ _ (k_ne (.inl (by simp [kG,kC]))),upd_same]
 · rw [upd_same]
def CopyP (B:Nat) (w:World) (s:StateD) (e:Ending) (w':World):Prop:=∃h,e= .returned (sV h s)∧SO w.heap.size w' h s∧Below w.heap.size w w'
set_option maxHeartbeats 4000000 in
set_option maxRecDepth 100000 in
theorem copyC {B:Nat} {hs:SH} {s:StateD} (w:World) (hB:B≤w.heap.size) (hd:SD B w hs s) (hl:LensB s):
 Calls Tryz.prog 44 #[sV hs s] w (CopyP B w s):=by
 have HD:=Lib.hid hd;have HBB:=Lib.hid hB;have HL:=Lib.hid hl;have hgl:=hd.globals.1;have hcl:=hd.chans.1;have hpl:=hd.procs.1;obtain ⟨X0,hX0⟩:=src_chans hd.chans hB;obtain ⟨P0,hP0⟩:=src_procs hd.procs hB;have HX:=Lib.hid hX0;have HP:=Lib.hid hP0;clear hd hl hX0 hP0;unfold sV sCells;obtain ⟨W1,hW1⟩:∃W1,W1= (w.alloc (.cells (sCells hs s) 33)).alloc (.cells #[.slice none 0 0,.slice none 0 0,.slice none 0 0,.int .i64 0,.int .i64 0,.int .i64 0] 33):=⟨_,rfl⟩;have HW1:=Lib.hid hW1;have hbW1:Below w.heap.size w W1:=by rw [hW1];exact ((Below.refl _ _).alloc (Nat.le_refl _) _).alloc (by simp) _
 have HBW1:=Lib.hid hbW1;unfold sCells at hW1;go_enter Tryz.func44,Tryz.ntmps44;go_wp2_with fail;rw [←hW1];have hG:=clone_ints hs.go s.globals.length hs.gc (intsV s.globals) W1 (ints_len _) (ints_one _) ((src_ints HD.out.globals HBB.out).below HBW1.out) HL.out.g;refine hG.mono ?_;rintro e W2 ⟨go,gc,rfl,hr2,hb2⟩;have HR2:=Lib.hid hr2;have HB2:=Lib.hid hb2;have hbox2:W2.heap[w.heap.size]? =some (.cells (sCells hs s) 33 (0,0)):=(hb2.block _ (by rw [hW1];simp;omega)).trans (by rw [hW1];exact (Below.heap_alloc _ _ _ (by simp)).trans (heap_alloc_new _ _));clear hr2 hb2 hW1 hG;unfold sCells at hbox2;have HBX:=Lib.hid hbox2;have f0:W2.frozen? ⟨w.heap.size,0,none⟩=false:=frozen_of_row _ _ _ _ _ hbox2;have c0:W2.cell? ⟨w.heap.size,0,none⟩=some (.slice hs.go s.globals.length hs.gc):=(cell_of_row _ _ _ _ _ _ hbox2).trans rfl;clear hbox2;go_upto_region 2 with fail
 obtain ⟨W3,hW3⟩:∃W3,W3=W2.setCell ⟨w.heap.size,0,none⟩ (.slice go s.globals.length gc):=⟨_,rfl⟩;have HW3:=Lib.hid hW3;rw [←hW3];have HBX3:Hid (W3.heap[w.heap.size]? =some (.cells #[.slice go s.globals.length gc,.slice hs.co s.chans.length hs.cc,.slice hs.po s.procs.length hs.pc,.int .i64 s.last,.int .i64 s.alone,.int .i64 s.claim] 33 (0,0))):=Lib.hid (by rw [hW3,heap_setCell_same _ _ _ _ _ _ HBX.out];rfl);have HB3:Hid (Below w.heap.size w W3):=Lib.hid (by rw [hW3];exact (HBW1.out.trans (HB2.out.mono HBW1.out.size)).setCell (Nat.le_refl _) _);clear hW3 f0 c0 HBX;have c1:W3.cell? ⟨w.heap.size,1,none⟩=some (.slice hs.co s.chans.length hs.cc):=(cell_of_row _ _ _ _ _ _ HBX3.out).trans rfl;go_wp2_with fail;refine (clone_chans hs.co s.chans.length hs.cc X0 W3 HX.out.1 HX.out.2.1 (HX.out.2.2.1.below HB3.out) HL.out.c).mono ?_;rintro e W4 ⟨co,cc,rfl,hr4,hb4⟩;have HOI:=Lib.hid (OI.start (hs:=hs) HW1.out HB2.out HR2.out HW3.out hb4 hr4);have f1:W4.frozen? ⟨w.heap.size,1,none⟩=false:=frozen_of_row _ _ _ _ _ ((hb4.block _ (lt_of_block HBX3.out)).trans HBX3.out);have c1:W4.cell? ⟨w.heap.size,1,none⟩=some (.slice hs.co s.chans.length hs.cc):=(cell_of_row _ _ _ _ _ _ ((hb4.block _ (lt_of_block HBX3.out)).trans HBX3.out)).trans rfl;clear hr4 hb4 HR2 HB2 HW1 HW3 HBX3;go_upto_region 3 with fail
 clear f1 c1;generalize W4.setCell ⟨w.heap.size,1,none⟩ (.slice co s.chans.length cc)=W5 at*;have c1:W5.cell? ⟨w.heap.size,1,none⟩=some (.slice co s.chans.length cc):=(cell_of_row _ _ _ _ _ _ HOI.out.box).trans rfl;go_wp2_with fail;clear c1
 go_loopw [17] (fun iv wr=>∃i:Nat,iv= .int .i64 i∧i≤s.chans.length∧Hid (OI w s (.slice go s.globals.length gc) co cc (.slice hs.po s.procs.length hs.pc) X0 i wr)) (fun i _=>s.chans.length - (intOf i).toNat)
 case atStart=>exact ⟨0,rfl,by omega,HOI⟩
 case round=>
  clear HOI;obtain ⟨i,rfl,hi,HC⟩:=hrel;have hi0: (0:Int)≤i:=by omega
  by_cases hlt:i < s.chans.length
  · have hlti: (i:Int) < s.chans.length:=by omega
    obtain ⟨g,hg⟩:=HC.out.form hlt;have HGE:=Lib.hid hg;have hat:=HC.out.at hlt hg;obtain ⟨x0,mo,mc,x1,hrow⟩:=HX.out.2.2.2 i hlt;have hcin:=HL.out.q s.chans[i] (List.getElem_mem hlt);obtain ⟨Y0,hy1,hy2,hy3,hy4⟩:=src_heads hrow HBB.out;have HY:=Lib.hid (And.intro hy1 (And.intro hy2 (And.intro hy3 hy4)));have HX01:=Lib.hid (And.intro x0 x1);have HQB:=Lib.hid hcin;rw [x1] at hat;have l1:wr.drew.cell? ⟨w.heap.size,1,none⟩=some (.slice (some ⟨g,0,none⟩) s.chans.length cc):=by
     have:=(cell_of_row _ _ 1 _ _ _ HC.out.box).trans rfl;rw [hg] at this;exact this
    have l2:wr.drew.cell? ⟨g,i*2+1,none⟩=some (.slice mo s.chans[i].queue.length mc):=hat.2.1;have l3:wr.drew.frozen? ⟨g,i*2+1,none⟩=false:=hat.2.2;have HGW:=Lib.hid hat.1;have HCL:=Lib.hid (clone_queue mo s.chans[i].queue.length mc Y0 wr.drew hy1 hy2 (hy3.below HC.out.bel.drew) hcin.1);clear hg hat hrow hcin x0 x1 hy1 hy2 hy3 hy4;go_wp2_with fail
    go_region_law
     (first
       | (go_simp;go_at_call 75;refine HCL.out.mono ?_;rintro e w1 ⟨qo,qc,rfl,hu,hb1⟩;have HU:=Lib.hid hu;have HB1:=Lib.hid hb1;have m1:w1.cell? ⟨w.heap.size,1,none⟩=some (.slice (some ⟨g,0,none⟩) s.chans.length cc):=(hb1.cell (by exact lt_of_block HC.out.box)).trans l1;have m2:w1.cell? ⟨g,i*2+1,none⟩=some (.slice mo s.chans[i].queue.length mc):=(hb1.cell (by exact HGW.out)).trans l2;have m3:w1.frozen? ⟨g,i*2+1,none⟩=false:=(hb1.frozen (by exact HGW.out)).trans l3;clear hu hb1))
    all_goals (
     have HST:=Lib.hid (HC.out.drew.enter hlt HGE.out HX01.out.1 HX01.out.2 HB1.out HU.out);clear l1 l2 l3 m1 m2 m3;simp only [Exit.inBlock,Exit.then];obtain ⟨Wx,hWx⟩:∃Wx,w1.setCell ⟨g,i*2+1,none⟩ (.slice qo s.chans[i].queue.length qc)=Wx:=⟨_,rfl⟩;rw [hWx] at HST ⊢;clear hWx HB1 HU HCL;have n1:Wx.cell? ⟨w.heap.size,1,none⟩=some (.slice (some ⟨g,0,none⟩) s.chans.length cc):=by
      have:=(cell_of_row _ _ 1 _ _ _ HST.out.box).trans rfl;rw [HGE.out] at this;exact this
     have n2:Wx.cell? ⟨g,i*2+1,none⟩=some (.slice qo s.chans[i].queue.length qc):=(HST.out.chan hlt HGE.out).2;go_wp2_with fail;clear n1 n2
     go_loopw [39] (fun kv wk=>∃k:Nat,kv= .int .i64 k∧k≤s.chans[i].queue.length∧Hid (II w s (.slice go s.globals.length gc) co cc (.slice hs.po s.procs.length hs.pc) X0 i s.chans[i] qo qc Y0 k wk)) (fun k _=>s.chans[i].queue.length - (intOf k).toNat)
     case atStart=>exact ⟨0,rfl,by omega,HST⟩
     case round=>
      clear HST;obtain ⟨k,rfl,hk,HK⟩:=hrel;have hk0: (0:Int)≤k:=by omega
      have hql:s.chans[i].queue.length≤140737488355328:=by have:=HQB.out.1;omega
      by_cases hlk:k < s.chans[i].queue.length
      · have hlki: (k:Int) < s.chans[i].queue.length:=by omega
        obtain ⟨gq,hgq⟩:=HK.out.form hlk;have HQE:=Lib.hid hgq;have hat:=HK.out.at hlk hgq;obtain ⟨yo,yc,y1,hrow⟩:=HY.out.2.2.2 k hlk;rw [y1] at hat;have l1:wr.drew.cell? ⟨w.heap.size,1,none⟩=some (.slice (some ⟨g,0,none⟩) s.chans.length cc):=by
         have:=(cell_of_row _ _ 1 _ _ _ HK.out.box).trans rfl;rw [HGE.out] at this;exact this
        have hch:=HK.out.chan hlt HGE.out;have l2:wr.drew.cell? ⟨g,i*2+1,none⟩=some (.slice (some ⟨gq,0,none⟩) s.chans[i].queue.length qc):=by rw [←hgq];exact hch.2
        have l3:wr.drew.cell? ⟨gq,k,none⟩=some (.slice yo s.chans[i].queue[k].length yc):=hat.2.1;have l4:wr.drew.frozen? ⟨gq,k,none⟩=false:=hat.2.2;have HGW2:=Lib.hid hch.1;have HGW3:=Lib.hid hat.1;have HCL:=Lib.hid (clone_msg yo s.chans[i].queue[k].length yc (intsV s.chans[i].queue[k]) wr.drew (ints_len _) (ints_one _) ((src_ints hrow HBB.out).below HK.out.bel.drew) (HQB.out.2 _ (List.getElem_mem hlk)));clear hgq hat hrow y1 hch;go_wp2_with fail
        go_region_law
         (first
           | (go_simp;go_at_call 76;refine HCL.out.mono ?_;rintro e w2 ⟨no,nc,rfl,hu,hb1⟩;have HU:=Lib.hid hu;have HB1:=Lib.hid hb1;have m1:w2.cell? ⟨w.heap.size,1,none⟩=some (.slice (some ⟨g,0,none⟩) s.chans.length cc):=(hb1.cell (by exact lt_of_block HK.out.box)).trans l1;have m2:w2.cell? ⟨g,i*2+1,none⟩=some (.slice (some ⟨gq,0,none⟩) s.chans[i].queue.length qc):=(hb1.cell (by exact HGW2.out)).trans l2;have m3:w2.cell? ⟨gq,k,none⟩=some (.slice yo s.chans[i].queue[k].length yc):=(hb1.cell (by exact HGW3.out)).trans l3;have m4:w2.frozen? ⟨gq,k,none⟩=false:=(hb1.frozen (by exact HGW3.out)).trans l4;clear hu hb1))
        all_goals (
         have HST:=Lib.hid (HK.out.drew.step hlk HQE.out HB1.out HU.out);clear l1 l2 l3 l4 m1 m2 m3 m4;simp only [Exit.inBlock,Exit.then];go_wp2_with fail;go_roundw;case rel=>exact ⟨k+1,by go_num,by omega,HST⟩
         case measure=>simp [intOf];omega)
      · have hlki:¬ (k:Int) < s.chans[i].queue.length:=by omega
        have hkl:k=s.chans[i].queue.length:=by omega
        have HST:=Lib.hid (II.leave hlt (hkl ▸ HK.out));clear hkl HK;go_wp2_with fail;go_roundw;case rel=>exact ⟨i+1,by go_num,by omega,HST⟩
        case measure=>simp [intOf];omega)
  · have hlti:¬ (i:Int) < s.chans.length:=by omega
    have hil:i=s.chans.length:=by omega
    have HE:=Lib.hid (hil ▸ HC.out);clear hil HC;have c2:wr.cell? ⟨w.heap.size,2,none⟩=some (.slice hs.po s.procs.length hs.pc):=(cell_of_row _ _ 2 _ _ _ HE.out.box).trans rfl;have HCP:=Lib.hid (clone_procs hs.po s.procs.length hs.pc P0 wr HP.out.1 HP.out.2.1 (HP.out.2.2.1.below HE.out.bel) HL.out.p);go_wp2_with fail;refine HCP.out.mono ?_;rintro e W6 ⟨po,pc,rfl,hr6,hb6⟩;have HPI:=Lib.hid (HE.out.procs hb6 hr6);have f2:W6.frozen? ⟨w.heap.size,2,none⟩=false:=frozen_of_row _ _ _ _ _ ((hb6.block _ (lt_of_block HE.out.box)).trans HE.out.box);have c2:W6.cell? ⟨w.heap.size,2,none⟩=some (.slice hs.po s.procs.length hs.pc):=(cell_of_row _ _ 2 _ _ _ ((hb6.block _ (lt_of_block HE.out.box)).trans HE.out.box)).trans rfl;clear hr6 hb6 HE HCP;go_upto_region 14 with fail
    clear f2 c2;generalize W6.setCell ⟨w.heap.size,2,none⟩ (.slice po s.procs.length pc)=W7 at*;have c2:W7.cell? ⟨w.heap.size,2,none⟩=some (.slice po s.procs.length pc):=(cell_of_row _ _ 2 _ _ _ HPI.out.box).trans rfl;go_wp2_with fail;clear c2
    go_loopw [69] (fun iv wr=>∃i:Nat,iv= .int .i64 i∧i≤s.procs.length∧Hid (PI w s (.slice go s.globals.length gc) co cc po pc P0 i wr)) (fun i _=>s.procs.length - (intOf i).toNat)
    case atStart=>exact ⟨0,rfl,by omega,HPI⟩
    case round=>
     clear HPI;obtain ⟨i,rfl,hi,HC⟩:=hrel;have hi0: (0:Int)≤i:=by omega
     by_cases hlt:i < s.procs.length
     · have hlti: (i:Int) < s.procs.length:=by omega
       obtain ⟨g,hg⟩:=HC.out.form hlt;have HGE:=Lib.hid hg;have hat:=HC.out.at hlt hg;obtain ⟨x0,x1,x2,fo,fc,x3,hrow⟩:=HP.out.2.2.2 i hlt;have HX01:=Lib.hid (And.intro x0 (And.intro x1 x2));rw [x3] at hat;have l1:wr.drew.cell? ⟨w.heap.size,2,none⟩=some (.slice (some ⟨g,0,none⟩) s.procs.length pc):=by
        have:=(cell_of_row _ _ 2 _ _ _ HC.out.box).trans rfl;rw [hg] at this;exact this
       have l2:wr.drew.cell? ⟨g,i*4+3,none⟩=some (.slice fo s.procs[i].frame.length fc):=hat.2.1;have l3:wr.drew.frozen? ⟨g,i*4+3,none⟩=false:=hat.2.2;have HGW:=Lib.hid hat.1;have HCL:=Lib.hid (clone_ints fo s.procs[i].frame.length fc (intsV s.procs[i].frame) wr.drew (ints_len _) (ints_one _) ((src_ints hrow HBB.out).below HC.out.bel.drew) (HL.out.f _ (List.getElem_mem hlt)));clear hg hat hrow x0 x1 x2 x3;go_wp2_with fail
       go_region_law
        (first
          | (go_simp;go_at_call 73;refine HCL.out.mono ?_;rintro e w1 ⟨qo,qc,rfl,hu,hb1⟩;have HU:=Lib.hid hu;have HB1:=Lib.hid hb1;have m1:w1.cell? ⟨w.heap.size,2,none⟩=some (.slice (some ⟨g,0,none⟩) s.procs.length pc):=(hb1.cell (by exact lt_of_block HC.out.box)).trans l1;have m2:w1.cell? ⟨g,i*4+3,none⟩=some (.slice fo s.procs[i].frame.length fc):=(hb1.cell (by exact HGW.out)).trans l2;have m3:w1.frozen? ⟨g,i*4+3,none⟩=false:=(hb1.frozen (by exact HGW.out)).trans l3;clear hu hb1))
       all_goals (
        have HST:=Lib.hid (HC.out.drew.step hlt HGE.out HX01.out.1 HX01.out.2.1 HX01.out.2.2 HB1.out HU.out);clear l1 l2 l3 m1 m2 m3;simp only [Exit.inBlock,Exit.then];go_wp2_with fail;go_roundw;case rel=>exact ⟨i+1,by go_num,by omega,HST⟩
        case measure=>simp [intOf];omega)
     · have hlti:¬ (i:Int) < s.procs.length:=by omega
       have hil:i=s.procs.length:=by omega
       have HE:=Lib.hid (hil ▸ HC.out);clear hil HC;have p0:wr.cell? ⟨w.heap.size,0,none⟩=some (.slice go s.globals.length gc):=(cell_of_row _ _ 0 _ _ _ HE.out.box).trans rfl;have p1:wr.cell? ⟨w.heap.size,1,none⟩=some (.slice co s.chans.length cc):=(cell_of_row _ _ 1 _ _ _ HE.out.box).trans rfl;have p2:wr.cell? ⟨w.heap.size,2,none⟩=some (.slice po s.procs.length pc):=(cell_of_row _ _ 2 _ _ _ HE.out.box).trans rfl;have p3:wr.cell? ⟨w.heap.size,3,none⟩=some (.int .i64 s.last):=(cell_of_row _ _ 3 _ _ _ HE.out.box).trans rfl;have p4:wr.cell? ⟨w.heap.size,4,none⟩=some (.int .i64 s.alone):=(cell_of_row _ _ 4 _ _ _ HE.out.box).trans rfl;have p5:wr.cell? ⟨w.heap.size,5,none⟩=some (.int .i64 s.claim):=(cell_of_row _ _ 5 _ _ _ HE.out.box).trans rfl;have q0:wr.cell? ⟨w.heap.size+1,0,none⟩=some (.slice none 0 0):=(cell_of_row _ _ 0 _ _ _ HE.out.res).trans rfl;have q1:wr.cell? ⟨w.heap.size+1,1,none⟩=some (.slice none 0 0):=(cell_of_row _ _ 1 _ _ _ HE.out.res).trans rfl;have q2:wr.cell? ⟨w.heap.size+1,2,none⟩=some (.slice none 0 0):=(cell_of_row _ _ 2 _ _ _ HE.out.res).trans rfl;have q3:wr.cell? ⟨w.heap.size+1,3,none⟩=some (.int .i64 0):=(cell_of_row _ _ 3 _ _ _ HE.out.res).trans rfl;have q4:wr.cell? ⟨w.heap.size+1,4,none⟩=some (.int .i64 0):=(cell_of_row _ _ 4 _ _ _ HE.out.res).trans rfl;have q5:wr.cell? ⟨w.heap.size+1,5,none⟩=some (.int .i64 0):=(cell_of_row _ _ 5 _ _ _ HE.out.res).trans rfl;have t0:wr.frozen? ⟨w.heap.size+1,0,none⟩=false:=frozen_of_row _ _ _ _ _ HE.out.res;have t1:wr.frozen? ⟨w.heap.size+1,1,none⟩=false:=frozen_of_row _ _ _ _ _ HE.out.res;have t2:wr.frozen? ⟨w.heap.size+1,2,none⟩=false:=frozen_of_row _ _ _ _ _ HE.out.res;have t3:wr.frozen? ⟨w.heap.size+1,3,none⟩=false:=frozen_of_row _ _ _ _ _ HE.out.res;have t4:wr.frozen? ⟨w.heap.size+1,4,none⟩=false:=frozen_of_row _ _ _ _ _ HE.out.res;have t5:wr.frozen? ⟨w.heap.size+1,5,none⟩=false:=frozen_of_row _ _ _ _ _ HE.out.res;have HEN:=Lib.hid (HE.out.done (.slice go s.globals.length gc) (.slice co s.chans.length cc) (.slice po s.procs.length pc) (.int .i64 s.last) (.int .i64 s.alone) (.int .i64 s.claim));clear hlt hi HE;go_wp2_with fail;refine bodyPost_ret (v:=sV ⟨go,gc,co,cc,po,pc⟩ s) (by simp [sV,sCells,results,Tryz.results44,go_sem,q0,q1,q2,q3,q4,q5,t0,t1,t2,t3,t4,t5]) rfl ?_;exact ⟨_,rfl,HEN.out.1,HEN.out.2⟩
end Go.Proofs.YthfldokfnjpkmaaGreatDoor
namespace Go.Proofs.YthfldokfnjpkmaaGreatDoor
open Go.ChangeShapes Go.WideShapes Go.ChangeAt Go.RowKit
structure GF (m:ModelD):Prop where
 globals:m.init.length=m.globals.length∧∀z ∈ m.globals.zip m.init,fitZ z=true
 shapes:∀s ∈ m.shapes,shapeB s=true
 procs:∀z ∈ m.procs.zipIdx,procB m z=true
theorem good_gf {m:ModelD} (h:goodB m=true):GF m:=by
 unfold goodB checkL at h;rw [decide_eq_true_eq] at h;by_cases h1: (globalsL m).2=false
 · rw [if_pos h1] at h;simp at h
 rw [if_neg h1] at h;by_cases h2: (channelsL m).2=false
 · rw [if_pos h2] at h;simp at h
 rw [if_neg h2] at h;by_cases h3: (expressionsL m).2=false
 · rw [if_pos h3] at h;simp at h
 rw [if_neg h3] at h;by_cases h4: (procsL m).2=false
 · rw [if_pos h4] at h;simp at h
 clear h h3;refine ⟨?_, ?_, ?_⟩
 · unfold globalsL at h1;split at h1
   · simp at h1
   · rename_i h5
     refine ⟨by omega, ?_⟩;cases hb:bad fitZ (m.globals.zip m.init) with
     | none=>exact bad_all hb
     | some i=>rw [hb] at h1;simp [idxB] at h1
 · unfold channelsL at h2;split at h2
   · simp at h2
   · cases hb:bad shapeB m.shapes with
     | none=>exact bad_all hb
     | some i=>rw [hb] at h2;simp at h2
 · unfold procsL at h4;cases hb:bad (procB m) m.procs.zipIdx with
   | none=>exact bad_all hb
   | some i=>rw [hb] at h4;simp [idxB] at h4
end Go.Proofs.YthfldokfnjpkmaaGreatDoor
namespace Go.Proofs.YthfldokfnjpkmaaGreatDoor
open Go.ChangeShapes Go.WideShapes Go.ChangeAt Go.RowKit
theorem at_new {W:World} {o:Obj} {q:Nat} (h:W.heap.size=q): (W.alloc o).heap[q]? =some o:=by
 subst h;exact heap_alloc_new W o
theorem ints_put (l:List Int) (i:Nat) (v:Int):intsV (l.set i v)= (intsV l).set i (.int .i64 v):=by
 unfold intsV;rw [List.map_set]
def frameK (f:List (Int × Bool)) (init args:List Int) (k:Nat):List Int:=
 init.mapIdx fun i v=>if i < k then val.fitI (f.getD i (0,false)).1 (f.getD i (0,false)).2 (args.getD i 0) else v
theorem frameK_len (f:List (Int × Bool)) (init args:List Int) (k:Nat): (frameK f init args k).length=init.length:=by
 unfold frameK;simp
theorem frameK_zero (f:List (Int × Bool)) (init args:List Int):frameK f init args 0=init:=by
 unfold frameK;apply List.ext_getElem?;intro i;simp
theorem frameK_get (f:List (Int × Bool)) (init args:List Int) (k i:Nat): (frameK f init args k)[i]? =init[i]?.map fun v=>if i < k then val.fitI (f.getD i (0,false)).1 (f.getD i (0,false)).2 (args.getD i 0) else v:=by
 unfold frameK;rw [List.getElem?_mapIdx]
theorem frameK_step (f:List (Int × Bool)) (init args:List Int) {k:Nat} (h:k < init.length):
 (frameK f init args k).set k (val.fitI (f.getD k (0,false)).1 (f.getD k (0,false)).2 (args.getD k 0))=frameK f init args (k+1):=by
 apply List.ext_getElem?;intro i;rw [List.getElem?_set,frameK_get,frameK_get,frameK_len];by_cases e:k=i
 · subst e;rw [if_pos rfl,if_pos h,List.getElem?_eq_getElem h,Option.map_some,if_pos (Nat.lt_succ_self k)]
 · rw [if_neg e];by_cases h3:i < k
   · simp only [if_pos h3,if_pos (Nat.lt_succ_of_lt h3)]
   · have h4:¬i < k+1:=by omega
     simp only [if_neg h3,if_neg h4]
def beginD (t:Int) (p:ProcD) (args:List Int):ProcessD:=⟨t,p.start,p.prio,frameK p.frame p.init args args.length⟩
def startsOf (t:Nat) (p:ProcD):List ProcessD:=List.replicate p.active.toNat (beginD t p (List.replicate p.params.toNat 0))
def startsL:Nat→List ProcD→List ProcessD
 | _,[]=>[]
 | t,p :: r=>startsOf t p ++ startsL (t+1) r
def firstD (m:ModelD):StateD:=⟨m.init,m.chans.map fun s=>⟨s,[]⟩,startsL 0 m.procs,0,-1,if m.claim < 0 then -1 else ((m.procs[m.claim.toNat]?).map (·.start)).getD 0⟩
def beginE (m:ModelD) (t:Int) (args:List Int):Int:=
 if goodB m=true then (if 0≤t∧t < m.procs.length∧t≠m.claim∧ (((m.procs[t.toNat]?).map (·.params)).getD 0)=args.length then 0 else 42) else 40
structure GP (m:ModelD) (p:ProcD):Prop where
 init:p.init.length=p.frame.length
 most:p.frame.length≤128
 par:0≤p.params∧p.params≤p.frame.length
 act:0≤p.active∧p.active≤16
theorem good_gp {m:ModelD} (h:goodB m=true) {t:Nat} {p:ProcD} (hp:m.procs[t]? =some p):GP m p:=by
 have h1:=(good_gf h).procs (p,t) (by
  rw [List.mem_iff_getElem?];exact ⟨t,by rw [List.getElem?_zipIdx,hp];simp⟩)
 unfold procB frameB frameHeadB frameTailB at h1;simp only [Bool.and_eq_true,Bool.not_eq_true',decide_eq_false_iff_not,decide_eq_true_eq] at h1;obtain ⟨⟨⟨⟨h2,-⟩,h3⟩,-⟩,-⟩:=h1;exact ⟨by omega,by omega,by omega,by omega⟩
end Go.Proofs.YthfldokfnjpkmaaGreatDoor
