/- A state's text, as the document writes it. -/
import Derived.Test.YtnoibjahliafpaaGreatDoorM06
import Derived.Test.YtnoibjahliafpaaGreatDoorM20
import Derived.Deep.RegionHeld3
set_option linter.unusedVariables false
set_option linter.unusedSimpArgs false
namespace Go.Proofs.YtnoibjahliafpaaGreatDoor
open Go.ChangeShapes Go.WideShapes Go.ChangeAt Go.RowKit
theorem rowF {W:World} {b:Nat} (l:List Int) (hb:W.heap[b]? =some (.cells (intsV l).toArray 2 (0,0))) (hx:∀v ∈ l,inI v) (hm:l.length≤100):
 Calls Tryz.prog 66 #[.slice (some ⟨b,0,none⟩) l.length l.length] W fun e w'=>e= .returned (strV (rowT l))∧Below W.heap.size W w':=by
 refine rowH (B:=W.heap.size) l (some ⟨b,0,none⟩) l.length W (Nat.le_refl _) ⟨by omega,.inr ⟨b,0,rfl,lt_of_block hb,fun i hi=> ?_⟩⟩ hx (by omega);unfold intAt;rw [cell_of_row _ _ _ _ _ _ hb];simp [intsV,hi]
structure Tx (w0:World) (hs:SH) (s:StateD) (W:World):Prop where
 s:W.heap[w0.heap.size]? =some (.cells (sCells hs s) 34 (0,0))
 bel:Below w0.heap.size w0 W
theorem Tx.below {w0 W W':World} {hs:SH} {s:StateD} (h:Tx w0 hs s W) (hb:Below W.heap.size W W'):Tx w0 hs s W':=⟨(hb.block _ (lt_of_block h.s)).trans h.s,h.bel.trans (hb.mono h.bel.size)⟩
theorem Tx.cell {w0 W:World} {hs:SH} {s:StateD} (h:Tx w0 hs s W) {i:Nat} {v:Value} (hv: (sCells hs s)[i]? =some v):W.cell? ⟨w0.heap.size,i,none⟩=some v:=(cell_of_row _ _ _ _ _ _ h.s).trans hv
theorem keepB {W0 W W1:World} (h:Below W0.heap.size W0 W) (hb:Below W.heap.size W W1):Below W0.heap.size W0 W1:=h.trans (hb.mono h.size)
set_option maxHeartbeats 4000000 in
set_option maxRecDepth 100000 in
theorem text12H {B:Nat} (s:StateD) (hs:SH) (w:World) (hB:B≤w.heap.size) (hsd:SD B w hs s) (hall: (∀v ∈ numsOf s,inI v)∧ (numsOf s).length≤8000):
 Calls Tryz.prog 47 #[sV hs s] w fun e w'=>e= .returned (strV (textS s))∧Below w.heap.size w w':=by
 have HX0:Hid (Tx w hs s (w.alloc (.cells (sCells hs s) 34))):=Lib.hid ⟨heap_alloc_new _ _,ball _⟩;have HB:=Lib.hid hB;have HSD:Hid (∀W,Below w.heap.size w W→SD B W hs s):=Lib.hid fun W hb=>hsd.below (hb.mono hB)
 have HOK:Hid (∀a b,numsOf s=a ++ b→ (∀v ∈ a,inI v)∧a.length≤8000):=Lib.hid fun a b h=>⟨fun v hv=>hall.1 v (by rw [h];exact List.mem_append_left _ hv),by have:=hall.2;rw [h,List.length_append] at this;omega⟩
 have HRG:Hid (∀W,Below w.heap.size w W→Calls Tryz.prog 66 #[.slice hs.go s.globals.length hs.gc] W fun e w'=>e= .returned (.string ⟨(rowT s.globals).toArray⟩)∧Below W.heap.size W w'):=Lib.hid fun W hb=>rowH s.globals hs.go hs.gc W (Nat.le_trans hB hb.size) (hsd.below (hb.mono hB)).globals (fun v hv=>hall.1 v (by unfold numsOf;simp [hv])) (by have:=hall.2;unfold numsOf at this;simp at this;omega)
 have hcl:=hsd.chans.1;have hprl:=hsd.procs.1;have hgl:=hsd.globals.1;have HR1:Hid (∀ (W:World) (b n:Nat),n≤140737488355328→W.heap[b]? =some (.cells #[.int .i64 (n:Int)] 2 (0,0))→Calls Tryz.prog 66 #[.slice (some ⟨b,0,none⟩) 1 1] W fun e w'=>e= .returned (.string ⟨(rowT [(n:Int)]).toArray⟩)∧Below W.heap.size W w'):=Lib.hid fun W b n hn hb=>rowF [(n:Int)] hb (fun v hv=>by
  rw [List.mem_singleton] at hv;subst hv;unfold inI;omega) (by simp)
 clear hsd hall hB;unfold sV;obtain ⟨SC,hSC⟩:∃c,c=sCells hs s:=⟨_,rfl⟩;have HSC:=Lib.hid hSC;rw [←hSC];rw [←hSC] at HX0;clear hSC;go_enter Tryz.func47,Tryz.ntmps47;go_upto_region 1 with fail
 generalize w.alloc (.cells SC 34)=W0 at HX0 ⊢;have HCE:Hid (∀W,Tx w hs s W→W.cell? ⟨w.heap.size,0,none⟩=some (.slice hs.go s.globals.length hs.gc)∧W.cell? ⟨w.heap.size,1,none⟩=some (.slice hs.co s.chans.length hs.cc)∧W.cell? ⟨w.heap.size,2,none⟩=some (.slice hs.po s.procs.length hs.pc)∧W.cell? ⟨w.heap.size,3,none⟩=some (.int .i64 s.last)∧W.cell? ⟨w.heap.size,4,none⟩=some (.int .i64 s.alone)∧W.cell? ⟨w.heap.size,5,none⟩=some (.int .i64 s.claim)):=Lib.hid fun W h=>⟨h.cell rfl,h.cell rfl,h.cell rfl,h.cell rfl,h.cell rfl,h.cell rfl⟩
 have HS:Hid (∀W,Below W0.heap.size W0 W→Below W0.heap.size W0 W∧W.cell? ⟨w.heap.size,0,none⟩=some (.slice hs.go s.globals.length hs.gc)∧W.cell? ⟨w.heap.size,1,none⟩=some (.slice hs.co s.chans.length hs.cc)):=Lib.hid fun W h=>by
  have h2:=HCE.out W (HX0.out.below h);exact ⟨h,h2.1,h2.2.1⟩
 have HRW:Hid (∀W,Below W0.heap.size W0 W→Calls Tryz.prog 66 #[.slice hs.go s.globals.length hs.gc] W fun e w'=>e= .returned (.string ⟨(rowT s.globals).toArray⟩)∧Below W.heap.size W w'):=Lib.hid fun W h=>HRG.out W (HX0.out.below h).bel
 have ls1:¬9223372036854775807 < (rowT s.globals).length+ (rowT [(s.chans.length:Int)]).length:=by
  have h1:=HOK.out (s.globals ++ [(s.chans.length:Int)]) (chansN s.chans ++ ((s.procs.length:Int) :: (procsN s.procs ++ [s.last,s.alone,s.claim]))) (by unfold numsOf;simp);have h2:=rowT_len h1.1;rw [rowT_append,List.length_append] at h2;omega
 have HZ1:Hid (∀W,Tx w hs s W→ (Value.string (⟨(rowT s.globals).toArray⟩ ++ ⟨(rowT [(s.chans.length:Int)]).toArray⟩)= .string ⟨(rowT (pre1 s 0)).toArray⟩∧Hid (Tx w hs s W))):=Lib.hid fun W h=>⟨by rw [str_add,←rowT_append];rfl,Lib.hid h⟩
 go_cut [3] from 7 (fun v W=>v= .string ⟨(rowT (pre1 s 0)).toArray⟩∧Hid (Tx w hs s W))
 case first=>
  go_region_held3 (fun W=>Below W0.heap.size W0 W∧W.cell? ⟨w.heap.size,0,none⟩=some (.slice hs.go s.globals.length hs.gc)∧W.cell? ⟨w.heap.size,1,none⟩=some (.slice hs.co s.chans.length hs.cc))
   (first | assumption | with_reducible exact HS.out _ (Below.refl _ _).drew | with_reducible exact HS.out _ (by assumption) | with_reducible exact HS.out _ (Below.alloc (And.left (by assumption)) (Below.size (And.left (by assumption))) _) | with_reducible exact HS.out _ (Below.alloc (by assumption) (Below.size (by assumption)) _))
   (first
     | (go_simp;go_at_call 66
        with_reducible refine (HRW.out _ (And.left (by assumption))).mono ?_
        rintro e W1 ⟨rfl,hb1⟩;have hB1:Below W0.heap.size W0 W1:=keepB (And.left (by assumption)) hb1)
     | (go_simp;go_at_call 66;refine (HR1.out _ _ s.chans.length hcl (by first | exact heap_alloc_new _ _ | exact (hb1.block _ (by simp)).trans (heap_alloc_new _ _))).mono ?_;rintro e W2 ⟨rfl,hb2⟩;have hB2:Below W0.heap.size W0 W2:=keepB (And.left (by assumption)) hb2))
  all_goals (
   try simp only [Exit.inBlock,Exit.then]
   go_wp2_with fail;go_meet;case rel=>exact HZ1.out _ (HX0.out.below (by assumption)))
 case rest=>
 obtain ⟨rfl,HX1⟩:=hcut;clear HZ1 HS HRW ls1 HX0 HRG;go_wp2_with fail;obtain ⟨oc,hoc⟩:∃o,hs.co=o:=⟨_,rfl⟩;have HOC:=Lib.hid hoc;clear hoc
 go_loopw [3,4] (fun tv iv W=>∃i:Nat,iv= .int .i64 i∧i≤s.chans.length∧tv= .string ⟨(rowT (pre1 s i)).toArray⟩∧Hid (Tx w hs s W)) (fun _ iv _=>s.chans.length - (intOf iv).toNat)
 case atStart=>exact ⟨0,rfl,by omega,rfl,HX1⟩
 case round=>
  clear HX1;obtain ⟨i,rfl,hi,rfl,HX⟩:=hrel;have hi0: (0:Int)≤i:=by omega
  have x1:wr.cell? ⟨w.heap.size,1,none⟩=some (.slice oc s.chans.length hs.cc):=by rw [←HOC.out];exact (HCE.out wr HX.out).2.1
  by_cases hlt:i < s.chans.length
  · have hlti: (i:Int) < s.chans.length:=by omega
    obtain ⟨g,off,ho,hgB,hca⟩:=(HSD.out _ HX.out.bel).chans.cell hlt;obtain ⟨c,hc⟩:∃c,s.chans[i]=c:=⟨_,rfl⟩;have HNX:Hid (pre1 s (i+1)=pre1 s i ++ chanN c):=Lib.hid (by rw [←hc];exact pre1_succ hlt);have HSP:Hid (∃r,numsOf s=pre1 s i ++ (chanN c ++ r)):=Lib.hid (by rw [←hc];exact pre1_split hlt);rw [hc] at hca;obtain ⟨qo,qc,c1,hqr⟩:=hca.queue;have c0:=hca.c0;have hgw:g < w.heap.size:=Nat.lt_of_lt_of_le hgB HB.out;have HQC:Hid (∀W,Below w.heap.size w W→W.cell? ⟨g,off+i*2,none⟩=some (.int .i64 c.shape)∧W.cell? ⟨g,off+i*2+1,none⟩=some (.slice qo c.queue.length qc)):=Lib.hid fun W hb=>
     ⟨(hb.cell (p:=⟨g,off+i*2,none⟩) hgw).trans ((HX.out.bel.cell (p:=⟨g,off+i*2,none⟩) hgw).symm.trans c0),(hb.cell (p:=⟨g,off+i*2+1,none⟩) hgw).trans ((HX.out.bel.cell (p:=⟨g,off+i*2+1,none⟩) hgw).symm.trans c1)⟩
    have HQR:Hid (∀W,Below w.heap.size w W→Row B qo 1 (msgAt B W) c.queue):=Lib.hid fun W hb=>by
     obtain ⟨g2,off2,ho2,-,hca2⟩:=(HSD.out _ hb).chans.cell hlt;rw [hc] at hca2;obtain ⟨qo2,qc2,e1,hqr2⟩:=hca2.queue;rw [ho] at ho2;injection ho2 with ho2
     injection ho2 with e2 e3
     subst e2 e3;rw [(HQC.out W hb).2] at e1;injection e1 with e4
     injection e4 with e5 e6 e7
     rw [e5];exact hqr2
    have hql:=hqr.1;rw [HOC.out] at ho;subst ho;clear hca hqr hc hgB;have HIN:Hid (∀v ∈ [c.shape,(c.queue.length:Int)],inI v):=Lib.hid fun v hv=>by
     obtain ⟨r,hr⟩:=HSP.out;exact (HOK.out (pre1 s i ++ [c.shape,(c.queue.length:Int)]) (c.queue.flatten ++ r) (by rw [hr];unfold chanN;simp)).1 v (List.mem_append_right _ hv)
    have HR2:Hid (∀ (W:World) (b:Nat),W.heap[b]? =some (.cells #[.int .i64 c.shape,.int .i64 (c.queue.length:Int)] 2 (0,0))→Calls Tryz.prog 66 #[.slice (some ⟨b,0,none⟩) 2 2] W fun e w'=>e= .returned (.string ⟨(rowT [c.shape,(c.queue.length:Int)]).toArray⟩)∧Below W.heap.size W w'):=Lib.hid fun W b hb=>rowF [c.shape,(c.queue.length:Int)] hb HIN.out (by simp)
    have ls2:¬9223372036854775807 < (rowT (pre1 s i)).length+ (rowT [c.shape,(c.queue.length:Int)]).length:=by
     obtain ⟨r,hr⟩:=HSP.out;have h1:=HOK.out (pre1 s i ++ [c.shape,(c.queue.length:Int)]) (c.queue.flatten ++ r) (by rw [hr];unfold chanN;simp);have h2:=rowT_len h1.1;rw [rowT_append,List.length_append] at h2;omega
    have HS:Hid (∀W,Below wr.heap.size wr W→Below wr.heap.size wr W∧W.cell? ⟨w.heap.size,1,none⟩=some (.slice (some ⟨g,off,none⟩) s.chans.length hs.cc)∧W.cell? ⟨g,off+i*2,none⟩=some (.int .i64 c.shape)∧W.cell? ⟨g,off+i*2+1,none⟩=some (.slice qo c.queue.length qc)):=Lib.hid fun W h=>by
     have h2:=(HCE.out W (HX.out.below h)).2.1;rw [HOC.out] at h2;have h3:=HQC.out W (HX.out.below h).bel;exact ⟨h,h2,h3.1,h3.2⟩
    clear c0 c1 hgw;go_upto_region 5 with fail
    clear x1
    go_region_held3 (fun W=>Below wr.heap.size wr W∧W.cell? ⟨w.heap.size,1,none⟩=some (.slice (some ⟨g,off,none⟩) s.chans.length hs.cc)∧W.cell? ⟨g,off+i*2,none⟩=some (.int .i64 c.shape)∧W.cell? ⟨g,off+i*2+1,none⟩=some (.slice qo c.queue.length qc))
     (first | assumption | with_reducible exact HS.out _ (Below.refl _ _).drew | with_reducible exact HS.out _ (by assumption) | with_reducible exact HS.out _ (Below.alloc (And.left (by assumption)) (Below.size (And.left (by assumption))) _) | with_reducible exact HS.out _ (Below.alloc (by assumption) (Below.size (by assumption)) _))
     (first
       | (go_simp;go_at_call 66;refine (HR2.out _ _ (by first | exact heap_alloc_new _ _ | exact (hb1.block _ (by simp)).trans (heap_alloc_new _ _))).mono ?_;rintro e W2 ⟨rfl,hb2⟩;have hB2:Below wr.heap.size wr W2:=keepB (And.left (by assumption)) hb2))
    have HX2:Hid (Tx w hs s W2):=Lib.hid (HX.out.below hB2);clear hb2 hB2 HS HR2 ls2 HX;have HE:Hid ((⟨(rowT (pre1 s i)).toArray⟩:ByteArray) ++ ⟨(rowT [c.shape,(c.queue.length:Int)]).toArray⟩= ⟨(rowT (pre1 s i ++ [c.shape,(c.queue.length:Int)])).toArray⟩):=Lib.hid (by rw [str_add,←rowT_append]);rw [HE.out]
    try simp only [Exit.inBlock,Exit.then]
    go_wp2_with fail;clear HE
    go_loopw [3,5] (fun tv jv W=>∃j:Nat,jv= .int .i64 j∧j≤c.queue.length∧tv= .string ⟨(rowT (pre1 s i ++ [c.shape,(c.queue.length:Int)] ++ (c.queue.take j).flatten)).toArray⟩∧Hid (Tx w hs s W)) (fun _ jv _=>c.queue.length - (intOf jv).toNat)
    case atStart=>exact ⟨0,rfl,by omega,by simp,HX2⟩
    case round=>
     clear HX2;obtain ⟨j,rfl,hj,rfl,HX⟩:=hrel;have hj0: (0:Int)≤j:=by omega
     have x1:wr.cell? ⟨w.heap.size,1,none⟩=some (.slice (some ⟨g,off,none⟩) s.chans.length hs.cc):=by rw [←HOC.out];exact (HCE.out wr HX.out).2.1
     have c1:=(HQC.out wr HX.out.bel).2;by_cases hjlt:j < c.queue.length
     · have hjlti: (j:Int) < c.queue.length:=by omega
       obtain ⟨g2,off2,ho2,hg2B,mo,mc,e1,hmr⟩:=(HQR.out _ HX.out.bel).cell hjlt;rw [Nat.mul_one] at e1;obtain ⟨x,hx⟩:∃x,c.queue[j]=x:=⟨_,rfl⟩;rw [hx] at e1 hmr;subst ho2;have HNJ:Hid (pre1 s i ++ [c.shape,(c.queue.length:Int)] ++ (c.queue.take j).flatten ++ x=pre1 s i ++ [c.shape,(c.queue.length:Int)] ++ (c.queue.take (j+1)).flatten):=Lib.hid (by
        rw [List.take_succ_eq_append_getElem hjlt,hx];simp)
       have HSJ:Hid (∃r,numsOf s= (pre1 s i ++ [c.shape,(c.queue.length:Int)] ++ (c.queue.take j).flatten ++ x) ++ r):=Lib.hid (by
        obtain ⟨r,hr⟩:=HSP.out;refine ⟨(c.queue.drop (j+1)).flatten ++ r, ?_⟩;have h9:=flat_at id hjlt;simp only [List.map_id,id] at h9;rw [hr];unfold chanN;rw [h9,hx];simp)
       have HC:Hid (Calls Tryz.prog 66 #[.slice mo x.length mc] wr fun e w'=>e= .returned (.string ⟨(rowT x).toArray⟩)∧Below wr.heap.size wr w'):=Lib.hid (by
        obtain ⟨r,hr⟩:=HSJ.out;have h1:=HOK.out _ r hr;exact rowH x mo mc wr (Nat.le_trans HB.out HX.out.bel.size) hmr (fun v hv=>h1.1 v (List.mem_append_right _ hv)) (by have:=h1.2;rw [List.length_append] at this;omega))
       have HST:Hid ((⟨(rowT (pre1 s i ++ [c.shape,(c.queue.length:Int)] ++ (c.queue.take j).flatten)).toArray⟩:ByteArray) ++ ⟨(rowT x).toArray⟩= ⟨(rowT (pre1 s i ++ [c.shape,(c.queue.length:Int)] ++ (c.queue.take (j+1)).flatten)).toArray⟩):=Lib.hid (by rw [str_add,←rowT_append,HNJ.out]);have ls3:¬9223372036854775807 < (rowT (pre1 s i ++ [c.shape,(c.queue.length:Int)] ++ (c.queue.take j).flatten)).length+ (rowT x).length:=by
        obtain ⟨r,hr⟩:=HSJ.out;have h1:=HOK.out _ r hr;have h2:=rowT_len h1.1;rw [rowT_append,List.length_append] at h2;omega
       obtain ⟨T,hT⟩:∃T,rowT (pre1 s i ++ [c.shape,(c.queue.length:Int)] ++ (c.queue.take j).flatten)=T:=⟨_,rfl⟩;rw [hT] at HST ls3 ⊢;clear hmr hx hg2B HNJ HSJ hT;go_wp2_with fail;refine HC.out.mono ?_;rintro e W6 ⟨rfl,hb6⟩;have HX6:=Lib.hid (HX.out.below hb6);clear hb6 HC HX e1 x1 c1;go_wp2_with fail;go_roundw;case rel=>exact ⟨j+1,by go_num,by omega,by rw [HST.out],HX6⟩
       case measure=>simp [intOf];omega
     · have hjlti:¬ (j:Int) < c.queue.length:=by omega
       have HE:Hid (rowT (pre1 s i ++ [c.shape,(c.queue.length:Int)] ++ (c.queue.take j).flatten)=rowT (pre1 s (i+1))):=Lib.hid (by
        rw [List.take_of_length_le (by omega),HNX.out];unfold chanN;simp)
       rw [HE.out];go_wp2_with fail;go_roundw;case rel=>exact ⟨i+1,by go_num,by omega,rfl,HX⟩
       case measure=>simp [intOf];omega
  · have hlti:¬ (i:Int) < s.chans.length:=by omega
    have hie:i=s.chans.length:=by omega
    have HIE:=Lib.hid hie;clear hie;rw [HIE.out];have x2:wr.cell? ⟨w.heap.size,2,none⟩=some (.slice hs.po s.procs.length hs.pc):=(HCE.out wr HX.out).2.2.1;have HS:Hid (∀W,Below wr.heap.size wr W→Below wr.heap.size wr W∧W.cell? ⟨w.heap.size,2,none⟩=some (.slice hs.po s.procs.length hs.pc)):=Lib.hid fun W h=>⟨h,(HCE.out W (HX.out.below h)).2.2.1⟩
    have ls4:¬9223372036854775807 < (rowT (pre1 s s.chans.length)).length+ (rowT [(s.procs.length:Int)]).length:=by
     have h1:=HOK.out (pre1 s s.chans.length ++ [(s.procs.length:Int)]) (procsN s.procs ++ [s.last,s.alone,s.claim]) (by rw [pre1_end];unfold numsOf pre2;simp [procsN]);have h2:=rowT_len h1.1;rw [rowT_append,List.length_append] at h2;omega
    have HE:Hid ((⟨(rowT (pre1 s s.chans.length)).toArray⟩:ByteArray) ++ ⟨(rowT [(s.procs.length:Int)]).toArray⟩= ⟨(rowT (pre2 s 0)).toArray⟩):=Lib.hid (by rw [str_add,←rowT_append,pre1_end]);go_wp2_with fail;go_upto_region 10 with fail
    have HR3:Hid (∀ (W:World) (b:Nat),W.heap[b]? =some (.cells #[.int .i64 (s.procs.length:Int)] 2 (0,0))→Calls Tryz.prog 66 #[.slice (some ⟨b,0,none⟩) 1 1] W fun e w'=>e= .returned (.string ⟨(rowT [(s.procs.length:Int)]).toArray⟩)∧Below W.heap.size W w'):=Lib.hid fun W b hb=>HR1.out W b s.procs.length hprl hb
    clear x2 HR1;go_wp2_with fail;refine (HR3.out _ _ (heap_alloc_new _ _)).mono ?_;rintro e W2 ⟨rfl,hb2⟩;have HX2:Hid (Tx w hs s W2):=Lib.hid ((HX.out.below (ball _)).below hb2);clear hb2 HS HR3 HX;go_upto_region 11 with fail
    rw [HE.out];clear HE ls4;go_wp2_with fail;obtain ⟨op,hop⟩:∃o,hs.po=o:=⟨_,rfl⟩;have HOP:=Lib.hid hop;clear hop
    go_loopw [3,6] (fun tv iv W=>∃j:Nat,iv= .int .i64 j∧j≤s.procs.length∧tv= .string ⟨(rowT (pre2 s j)).toArray⟩∧Hid (Tx w hs s W)) (fun _ iv _=>s.procs.length - (intOf iv).toNat)
    case atStart=>exact ⟨0,rfl,by omega,rfl,HX2⟩
    case round=>
     clear HX2;obtain ⟨j,rfl,hj,rfl,HX⟩:=hrel;have hj0: (0:Int)≤j:=by omega
     have x2:wr.cell? ⟨w.heap.size,2,none⟩=some (.slice op s.procs.length hs.pc):=by rw [←HOP.out];exact (HCE.out wr HX.out).2.2.1
     by_cases hjl:j < s.procs.length
     · have hjli: (j:Int) < s.procs.length:=by omega
       obtain ⟨g,off,ho,hgB,hca⟩:=(HSD.out _ HX.out.bel).procs.cell hjl;obtain ⟨c,hc⟩:∃c,s.procs[j]=c:=⟨_,rfl⟩;have HNX:Hid (pre2 s (j+1)=pre2 s j ++ [c.type,c.loc] ++ c.frame):=Lib.hid (by rw [pre2_succ hjl,hc];unfold procN;simp);have HSP:Hid (∃r,numsOf s=pre2 s j ++ [c.type,c.loc] ++ c.frame ++ r):=Lib.hid (by
        obtain ⟨r,hr⟩:=pre2_split hjl;rw [hc] at hr;exact ⟨r,by rw [hr];unfold procN;simp⟩)
       rw [hc] at hca;obtain ⟨qo,qc,c3,hqr⟩:=hca.frame;have c0:=hca.c0;have c1:=hca.c1;have hgw:g < w.heap.size:=Nat.lt_of_lt_of_le hgB HB.out;have hql:=hqr.1;have HS:Hid (∀W,Below wr.heap.size wr W→Below wr.heap.size wr W∧W.cell? ⟨w.heap.size,2,none⟩=some (.slice (some ⟨g,off,none⟩) s.procs.length hs.pc)∧W.cell? ⟨g,off+j*4,none⟩=some (.int .i64 c.type)∧W.cell? ⟨g,off+j*4+1,none⟩=some (.int .i64 c.loc)∧W.cell? ⟨g,off+j*4+3,none⟩=some (.slice qo c.frame.length qc)):=Lib.hid fun W h=>by
        have h2:=(HCE.out W (HX.out.below h)).2.2.1;rw [ho] at h2;have hgr:=Nat.lt_of_lt_of_le hgw HX.out.bel.size;exact ⟨h,h2,(h.cell (p:=⟨g,off+j*4,none⟩) hgr).trans c0,(h.cell (p:=⟨g,off+j*4+1,none⟩) hgr).trans c1,(h.cell (p:=⟨g,off+j*4+3,none⟩) hgr).trans c3⟩
       have HRW:Hid (∀W,Below wr.heap.size wr W→Calls Tryz.prog 66 #[.slice qo c.frame.length qc] W fun e w'=>e= .returned (.string ⟨(rowT c.frame).toArray⟩)∧Below W.heap.size W w'):=Lib.hid fun W h=>by
        obtain ⟨r,hr⟩:=HSP.out;have h1:=HOK.out _ r hr;have hbw:=Nat.le_trans HB.out HX.out.bel.size;exact rowH (B:=B) c.frame qo qc W (Nat.le_trans hbw h.size) (hqr.mono fun _ _ _ hg=>intAt.below (h.mono hbw) hg) (fun v hv=>h1.1 v (List.mem_append_right _ hv)) (by have:=h1.2;rw [List.length_append] at this;omega)
       have HR2:Hid (∀ (W:World) (b:Nat),W.heap[b]? =some (.cells #[.int .i64 c.type,.int .i64 c.loc] 2 (0,0))→Calls Tryz.prog 66 #[.slice (some ⟨b,0,none⟩) 2 2] W fun e w'=>e= .returned (.string ⟨(rowT [c.type,c.loc]).toArray⟩)∧Below W.heap.size W w'):=Lib.hid fun W b hb=>by
        obtain ⟨r,hr⟩:=HSP.out;have h1:=HOK.out _ r hr;exact rowF [c.type,c.loc] hb (fun v hv=>h1.1 v (List.mem_append_left _ (List.mem_append_right _ hv))) (by simp)
       have hls: (rowT (pre2 s j)).length+ (rowT [c.type,c.loc]).length+ (rowT c.frame).length≤200000:=by
        obtain ⟨r,hr⟩:=HSP.out;have h1:=HOK.out _ r hr;have h2:=rowT_len h1.1;rw [rowT_append,rowT_append,List.length_append,List.length_append] at h2;omega
       have HZ1:Hid (∀W,Tx w hs s W→ (Value.string ((⟨(rowT (pre2 s j)).toArray⟩:ByteArray) ++ ⟨(rowT [c.type,c.loc]).toArray⟩ ++ ⟨(rowT c.frame).toArray⟩)= .string ⟨(rowT (pre2 s (j+1))).toArray⟩∧Hid (Tx w hs s W))):=Lib.hid fun W h=>⟨by rw [str_add,str_add,←rowT_append,←rowT_append,HNX.out],Lib.hid h⟩
       rw [HOP.out] at ho;subst ho;clear hca hqr hc hgB c0 c1 c3 hgw;go_upto_region 14 with fail
       clear x2;obtain ⟨R,hR⟩:∃R,rowT (pre2 s j)=R:=⟨_,rfl⟩;obtain ⟨D,hD⟩:∃D,rowT [c.type,c.loc]=D:=⟨_,rfl⟩;obtain ⟨E,hE⟩:∃E,rowT c.frame=E:=⟨_,rfl⟩;rw [hR] at HZ1 hls ⊢;rw [hD] at HZ1 hls HR2;rw [hE] at HZ1 hls HRW;have ls5:¬9223372036854775807 < R.length+D.length:=by omega
       have ls6:¬9223372036854775807 < R.length+D.length+E.length:=by omega
       clear hR hD hE
       go_region_held3 (fun W=>Below wr.heap.size wr W∧W.cell? ⟨w.heap.size,2,none⟩=some (.slice (some ⟨g,off,none⟩) s.procs.length hs.pc)∧W.cell? ⟨g,off+j*4,none⟩=some (.int .i64 c.type)∧W.cell? ⟨g,off+j*4+1,none⟩=some (.int .i64 c.loc)∧W.cell? ⟨g,off+j*4+3,none⟩=some (.slice qo c.frame.length qc))
        (first | assumption | with_reducible exact HS.out _ (Below.refl _ _).drew | with_reducible exact HS.out _ (by assumption) | with_reducible exact HS.out _ (Below.alloc (And.left (by assumption)) (Below.size (And.left (by assumption))) _) | with_reducible exact HS.out _ (Below.alloc (by assumption) (Below.size (by assumption)) _))
        (first
          | (go_simp;go_at_call 66
             with_reducible refine (HRW.out _ (And.left (by assumption))).mono ?_
             rintro e W1 ⟨rfl,hb1⟩;have hB1:Below wr.heap.size wr W1:=keepB (And.left (by assumption)) hb1)
          | (go_simp;go_at_call 66;refine (HR2.out _ _ (by first | exact heap_alloc_new _ _ | exact (hb1.block _ (by simp)).trans (heap_alloc_new _ _))).mono ?_;rintro e W2 ⟨rfl,hb2⟩;have hB2:Below wr.heap.size wr W2:=keepB (And.left (by assumption)) hb2))
       all_goals (
        have HZ2:=Lib.hid (HZ1.out _ (HX.out.below (by assumption)))
        try simp only [Exit.inBlock,Exit.then]
        go_wp2_with fail;go_roundw;case rel=>exact ⟨j+1,by go_num,by omega,HZ2.out.1,HZ2.out.2⟩
        case measure=>simp [intOf];omega)
     · have hjli:¬ (j:Int) < s.procs.length:=by omega
       have hje:j=s.procs.length:=by omega
       have HJE:=Lib.hid hje;clear hje;rw [HJE.out];have HN:=Lib.hid (pre2_end s);have hin:=HOK.out (pre2 s s.procs.length ++ [s.last,s.alone,s.claim]) [] (by rw [List.append_nil];exact HN.out.symm);have ls7:¬9223372036854775807 < (rowT (pre2 s s.procs.length)).length+ (rowT [s.last,s.alone,s.claim]).length:=by
        have h2:=rowT_len hin.1;rw [rowT_append,List.length_append] at h2;omega
       have HE:Hid ((⟨(rowT (pre2 s s.procs.length)).toArray⟩:ByteArray) ++ ⟨(rowT [s.last,s.alone,s.claim]).toArray⟩= ⟨(textS s).toArray⟩):=Lib.hid (by rw [str_add,←rowT_append,HN.out];rfl);have HR3:Hid (∀ (W:World) (b:Nat),W.heap[b]? =some (.cells #[.int .i64 s.last,.int .i64 s.alone,.int .i64 s.claim] 2 (0,0))→Calls Tryz.prog 66 #[.slice (some ⟨b,0,none⟩) 3 3] W fun e w'=>e= .returned (.string ⟨(rowT [s.last,s.alone,s.claim]).toArray⟩)∧Below W.heap.size W w'):=Lib.hid fun W b hb=>
        rowF [s.last,s.alone,s.claim] hb (fun v hv=>hin.1 v (List.mem_append_right _ hv)) (by simp)
       clear hin HN;obtain ⟨-,-,-,x3,x4,x5⟩:=HCE.out wr HX.out;go_wp2_with fail;refine (HR3.out _ _ (heap_alloc_new _ _)).mono ?_;rintro e W2 ⟨rfl,hb2⟩;have HX2:Hid (Tx w hs s W2):=Lib.hid ((HX.out.below (ball _)).below hb2);clear hb2 HR3 HX x3 x4 x5 x2;go_wp2_with fail;go_ret;refine ⟨?_,HX2.out.bel⟩;unfold strV
       (rw [←HE.out]) <;> rfl
end Go.Proofs.YtnoibjahliafpaaGreatDoor
