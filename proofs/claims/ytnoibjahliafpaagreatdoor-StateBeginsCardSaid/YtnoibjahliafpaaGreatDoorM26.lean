/- A state's text, whole: encoded, and Encode. -/
import Derived.Test.YtnoibjahliafpaaGreatDoorM25
import Derived.Test.YtnoibjahliafpaaGreatDoorM17
import Derived.Test.YtnoibjahliafpaaGreatDoorM05
import Derived.Test.YtnoibjahliafpaaGreatDoorM02
set_option linter.unusedVariables false
set_option linter.unusedSimpArgs false
namespace Go.Proofs.YtnoibjahliafpaaGreatDoor
open Go.ChangeShapes Go.WideShapes Go.ChangeAt Go.RowKit
structure Ec (w0:World) (SC:Array Value) (p q:Nat) (ns:List Int) (W:World):Prop where
 bx:EBx w0.heap.size p (rowT ns) W
 g:GBx p q W
 s:W.heap[w0.heap.size]? =some (.cells SC 34 (0,0))
 hp:w0.heap.size≤p
 bel:Below w0.heap.size w0 W
section
variable {w0 W W':World} {SC:Array Value} {p q:Nat} {ns ns' l:List Int} {e:Ending}
theorem EBx.other {B p k:Nat} {L:List UInt8} {o:Obj} (h:EBx B p L W) (hk:W.heap[k]? =some o) (ho:∀c fz,o≠ .cells c 119 fz):some k≠some p:=by
 rintro e;injection e with e
 subst e;obtain ⟨a,b,h1,-⟩:=h;rw [h1] at hk;injection hk with hk
 exact ho _ _ hk.symm
theorem PutP.keep {B p k:Nat} {L L2:List UInt8} {o:Obj} (h:PutP B p L2 W e W') (hb:EBx B p L W) (hk:W.heap[k]? =some o) (ho:∀c fz,o≠ .cells c 119 fz) (ho2:∀c fz,o≠ .cells c 5 fz):W'.heap[k]? =some o:=
 h.2.2.2 k o hk (hb.other hk ho) ho2
theorem Ec.put (h:Ec w0 SC p q ns W) (hp:PutP w0.heap.size p (rowT ns') W e W'):Ec w0 SC p q ns' W':=
 ⟨hp.2.1,hp.keep h.bx h.g (by simp) (by simp),hp.keep h.bx h.s (by simp) (by simp),h.hp,h.bel.trans hp.2.2.1⟩
theorem Ec.below (h:Ec w0 SC p q ns W) (hb:Below W.heap.size W W'):Ec w0 SC p q ns W':=
 ⟨h.bx.below hb,(hb.block _ (lt_of_block h.g)).trans h.g,(hb.block _ (lt_of_block h.s)).trans h.s,h.hp,h.bel.trans (hb.mono h.bel.size)⟩
theorem Ec.put1 (h:Ec w0 SC p q ns W) (ht:TabW w0) {x:Int} (hx: (∀v ∈ ns ++ [x],inI v)∧ (ns ++ [x]).length≤8000):
 Calls Tryz.prog 63 #[.int .i64 x,.pointer (some ⟨p,0,none⟩)] W (PutP w0.heap.size p (rowT (ns ++ [x])) W):=by
 have h1:=rowT_len (l:=ns) fun v hv=>hx.1 v (List.mem_append_left _ hv)
 have h2:=hx.2;rw [List.length_append] at h2;have h3:=putC w0.heap.size p x (rowT ns) W h.bel.size h.hp h.bx (hx.1 x (by simp)) (by omega) (fun w' hw=>ht w' (h.bel.trans hw));rw [rowT_append,rowT_one];exact h3
theorem Ec.putL (h:Ec w0 SC p q ns W) (ht:TabW w0) {B:Nat} {o:Option Addr} (c:Nat) (hB:B≤w0.heap.size) (hl:Row B o 1 (intAt W) l) (hx: (∀v ∈ ns ++ l,inI v)∧ (ns ++ l).length≤8000):
 Calls Tryz.prog 65 #[.slice o l.length c,.pointer (some ⟨q,0,none⟩)] W (PutP w0.heap.size p (rowT (ns ++ l)) W):=
 putAllC w0.heap.size p q l ns o c W hB h.bel.size h.hp h.bx h.g hl hx.1 hx.2 (fun w' hw=>ht w' (h.bel.trans hw))
theorem Ec.cell (h:Ec w0 SC p q ns W) {i:Nat} {v:Value} (hv:SC[i]? =some v):W.cell? ⟨w0.heap.size,i,none⟩=some v:=(cell_of_row _ _ _ _ _ _ h.s).trans hv
theorem Ec.fn (h:Ec w0 SC p q ns W):W.cell? ⟨q,0,none⟩=some (.func (.func 63) #[] #[.pointer (some ⟨p,0,none⟩)]):=(cell_of_row _ _ 0 _ _ _ h.g).trans rfl
end
theorem str_back {W:World} {B:Nat} {L:List UInt8} {o:Option Addr} {c:Nat} (h:W.ownsRow B 5 1 (.slice o L.length c) L.length (Lib.byteCells L)) (hL:0 < L.length): (convert 119 9 (.slice o L.length c)).run Tryz.prog W= .ok (.string ⟨L.toArray⟩) W:=by
 rcases owns_row h with h0 | ⟨g,rfl,-,-,hc⟩
 · omega
 · refine run_convert_bytes_back W 119 9 5 ⟨g,0,none⟩ c L Tryz.underlying119 Tryz.underlying5 Tryz.underlying9 fun j hj=> ?_
   have h2:=hc j (by omega);rw [held.add_off,Nat.zero_add,h2];simp [Lib.byteCells,hj]
set_option maxHeartbeats 4000000 in
set_option maxRecDepth 100000 in
theorem encodedC {B:Nat} (s:StateD) (hs:SH) (w:World) (hB:B≤w.heap.size) (hsd:SD B w hs s) (ht:TabW w) (hall: (∀v ∈ numsOf s,inI v)∧ (numsOf s).length≤8000):
 Calls Tryz.prog 46 #[sV hs s] w fun e w'=>e= .returned (.string ⟨(textS s).toArray⟩)∧Below w.heap.size w w':=by
 obtain ⟨SC,hSC⟩:∃c,c=sCells hs s:=⟨_,rfl⟩;obtain ⟨p,hp⟩:∃p,w.heap.size+1=p:=⟨_,rfl⟩;obtain ⟨q,hq⟩:∃q,p+1=q:=⟨_,rfl⟩;obtain ⟨W0,hW0⟩:∃W,W= ((w.alloc (.cells SC 34)).alloc (.cells #[.slice none 0 0] 119)).alloc (.cells #[.func (.func 63) #[] #[.pointer (some ⟨p,0,none⟩)]] 121):=⟨_,rfl⟩;have HE0:Hid (Ec w SC p q [] W0):=Lib.hid (by
  rw [hW0];refine ⟨⟨none,0, ?_,World.ownsRow_nil _ _ _ _⟩, ?_, ?_,by omega,(((Below.refl _ _).alloc (Nat.le_refl _) _).alloc (by simp) _).alloc (by simp;omega) _⟩
  · exact (Below.heap_alloc _ _ _ (by simp;omega)).trans (new_at (by simp;omega))
  · exact new_at (by simp;omega)
  · exact (Below.heap_alloc _ _ _ (by simp;omega)).trans ((Below.heap_alloc _ _ _ (by simp)).trans (heap_alloc_new _ _)))
 have HT:=Lib.hid ht;have HB:=Lib.hid hB;have HSD:Hid (∀W,Below w.heap.size w W→SD B W hs s):=Lib.hid fun W hb=>hsd.below (hb.mono hB)
 have HOK:Hid (∀a b,numsOf s=a ++ b→ (∀v ∈ a,inI v)∧a.length≤8000):=Lib.hid fun a b h=>⟨fun v hv=>hall.1 v (by rw [h];exact List.mem_append_left _ hv),by have:=hall.2;rw [h,List.length_append] at this;omega⟩
 have HCE:Hid (∀ (W:World) ns,Ec w SC p q ns W→W.cell? ⟨w.heap.size,0,none⟩=some (.slice hs.go s.globals.length hs.gc)∧W.cell? ⟨w.heap.size,1,none⟩=some (.slice hs.co s.chans.length hs.cc)∧W.cell? ⟨w.heap.size,2,none⟩=some (.slice hs.po s.procs.length hs.pc)∧W.cell? ⟨w.heap.size,3,none⟩=some (.int .i64 s.last)∧W.cell? ⟨w.heap.size,4,none⟩=some (.int .i64 s.alone)∧W.cell? ⟨w.heap.size,5,none⟩=some (.int .i64 s.claim)):=Lib.hid fun W ns h=>by
  rw [hSC] at h;exact ⟨h.cell rfl,h.cell rfl,h.cell rfl,h.cell rfl,h.cell rfl,h.cell rfl⟩
 have HV:Hid (Value.agg SC=sV hs s):=Lib.hid (by rw [hSC];rfl);have hcl:=hsd.chans.1;have hprl:=hsd.procs.1;have hgl:=hsd.globals.1;unfold sV;rw [←hSC];clear hSC hsd ht hall hB;go_enter Tryz.func46,Tryz.ntmps46;go_upto_region 4 with fail
 rw [←hW0];clear hW0 hp hq;obtain ⟨x0,-,-,-,-,-⟩:=HCE.out W0 _ HE0.out;have HC:=Lib.hid (HE0.out.putL HT.out hs.gc HB.out (HSD.out _ HE0.out.bel).globals (HOK.out ([] ++ s.globals) _ (by unfold numsOf;rw [List.nil_append])));rw [List.nil_append] at HC;go_upto_region 5 with (refine HC.out.mono ?_;rintro e W1 hput;obtain rfl:=hput.1;have HE1:=Lib.hid (HE0.out.put hput);clear hput)
 clear HC HE0 x0;obtain ⟨-,x1,-,-,-,-⟩:=HCE.out W1 _ HE1.out;have y1:=HE1.out.fn;have HC:=Lib.hid (HE1.out.put1 HT.out (x:=(s.chans.length:Int)) (HOK.out _ (chansN s.chans ++ ((s.procs.length:Int) :: (procsN s.procs ++ [s.last,s.alone,s.claim]))) (by unfold numsOf;simp)));go_upto_region 6 with (refine HC.out.mono ?_;rintro e W2 hput;obtain rfl:=hput.1;have HE2:=Lib.hid (HE1.out.put hput);clear hput)
 clear HC HE1 x1 y1;obtain ⟨-,x1,-,-,-,-⟩:=HCE.out W2 _ HE2.out;have HE3:Hid (Ec w SC p q (pre1 s 0) W2):=Lib.hid HE2.out;obtain ⟨oc,hoc⟩:∃o,hs.co=o:=⟨_,rfl⟩;have HOC:=Lib.hid hoc;rw [hoc] at x1;clear HE2 hoc;go_wp2_with fail
 go_loopw [26] (fun iv W=>∃i:Nat,iv= .int .i64 i∧i≤s.chans.length∧Hid (Ec w SC p q (pre1 s i) W)) (fun iv _=>s.chans.length - (intOf iv).toNat)
 case atStart=>exact ⟨0,rfl,by omega,HE3⟩
 case round=>
  clear HE3 x1;obtain ⟨i,rfl,hi,HE⟩:=hrel;have hi0: (0:Int)≤i:=by omega
  by_cases hlt:i < s.chans.length
  · have hlti: (i:Int) < s.chans.length:=by omega
    obtain ⟨g,off,ho,hgB,hca⟩:=(HSD.out _ HE.out.bel).chans.cell hlt;obtain ⟨c,hc⟩:∃c,s.chans[i]=c:=⟨_,rfl⟩;have HNX:Hid (pre1 s (i+1)=pre1 s i ++ chanN c):=Lib.hid (by rw [←hc];exact pre1_succ hlt);have HSP:Hid (∃r,numsOf s=pre1 s i ++ (chanN c ++ r)):=Lib.hid (by rw [←hc];exact pre1_split hlt);rw [hc] at hca;obtain ⟨qo,qc,c1,hqr⟩:=hca.queue;have c0:=hca.c0;have HQR:Hid (∀W,Below w.heap.size w W→Row B qo 1 (msgAt B W) c.queue):=Lib.hid fun W hb=>by
     obtain ⟨g2,off2,ho2,-,hca2⟩:=(HSD.out _ hb).chans.cell hlt;rw [hc] at hca2;obtain ⟨qo2,qc2,e1,hqr2⟩:=hca2.queue;rw [ho] at ho2;injection ho2 with ho2
     injection ho2 with e2 e3
     subst e2 e3;have e4:W.cell? ⟨g,off+i*2+1,none⟩=wr.cell? ⟨g,off+i*2+1,none⟩:=by
      have hgw:g < w.heap.size:=Nat.lt_of_lt_of_le hgB HB.out;exact (hb.cell (p:=⟨g,off+i*2+1,none⟩) hgw).trans (HE.out.bel.cell (p:=⟨g,off+i*2+1,none⟩) hgw).symm
     rw [e1,c1] at e4;injection e4 with e4
     injection e4 with e5 e6 e7
     rw [←e5];exact hqr2
    have hql:=hqr.1;rw [HOC.out] at ho;subst ho;clear hca hqr hc hgB;have HEa:Hid (Ec w SC p q (pre1 s i) (wr.alloc (.cells #[.int .i64 c.shape,.slice qo c.queue.length qc] 66))):=Lib.hid (HE.out.below (ball _));have HXa:Hid ((wr.alloc (.cells #[.int .i64 c.shape,.slice qo c.queue.length qc] 66)).heap[wr.heap.size]? =some (.cells #[.int .i64 c.shape,.slice qo c.queue.length qc] 66 (0,0))):=Lib.hid (heap_alloc_new _ _);obtain ⟨cb,hcb⟩:∃cb,wr.heap.size=cb:=⟨_,rfl⟩;rw [hcb] at HXa;go_upto_region 9 with fail
    try rw [hcb]
    clear hcb HE c0 c1;generalize wr.alloc (.cells #[.int .i64 c.shape,.slice qo c.queue.length qc] 66)=W3 at HEa HXa ⊢;have y3:=HEa.out.fn;have b0:W3.cell? ⟨cb,0,none⟩=some (.int .i64 c.shape):=(cell_of_row _ _ 0 _ _ _ HXa.out).trans rfl;have HC:=Lib.hid (HEa.out.put1 HT.out (x:=c.shape) (by
     obtain ⟨r,hr⟩:=HSP.out;exact HOK.out _ ((c.queue.length:Int) :: (c.queue.flatten ++ r)) (by rw [hr];unfold chanN;simp)))
    go_upto_region 10 with (refine HC.out.mono ?_;rintro e W4 hput;obtain rfl:=hput.1;have HE4:=Lib.hid (HEa.out.put hput);have HX4:=Lib.hid (hput.keep HEa.out.bx HXa.out (by simp) (by simp));clear hput)
    clear HC HEa HXa y3 b0;have y4:=HE4.out.fn;have b1:W4.cell? ⟨cb,1,none⟩=some (.slice qo c.queue.length qc):=(cell_of_row _ _ 1 _ _ _ HX4.out).trans rfl;have HC:=Lib.hid (HE4.out.put1 HT.out (x:=(c.queue.length:Int)) (by
     obtain ⟨r,hr⟩:=HSP.out;exact HOK.out _ (c.queue.flatten ++ r) (by rw [hr];unfold chanN;simp)))
    go_upto_region 11 with (refine HC.out.mono ?_;rintro e W5 hput;obtain rfl:=hput.1;have HE5:=Lib.hid (HE4.out.put hput);have HX5:=Lib.hid (hput.keep HE4.out.bx HX4.out (by simp) (by simp));clear hput)
    clear HC HE4 HX4 y4 b1;have b1:W5.cell? ⟨cb,1,none⟩=some (.slice qo c.queue.length qc):=(cell_of_row _ _ 1 _ _ _ HX5.out).trans rfl;have HE6:Hid (Ec w SC p q (pre1 s i ++ [c.shape] ++ [(c.queue.length:Int)] ++ (c.queue.take 0).flatten) W5):=Lib.hid (by simpa using HE5.out);clear HE5 HX5;go_wp2_with fail
    go_loopw [42] (fun jv W=>∃j:Nat,jv= .int .i64 j∧j≤c.queue.length∧Hid (Ec w SC p q (pre1 s i ++ [c.shape] ++ [(c.queue.length:Int)] ++ (c.queue.take j).flatten) W)) (fun jv _=>c.queue.length - (intOf jv).toNat)
    case atStart=>exact ⟨0,rfl,by omega,HE6⟩
    case round=>
     clear HE6 b1;obtain ⟨j,rfl,hj,HE⟩:=hrel;have hj0: (0:Int)≤j:=by omega
     by_cases hjlt:j < c.queue.length
     · have hjlti: (j:Int) < c.queue.length:=by omega
       obtain ⟨g2,off2,ho2,hg2B,mo,mc,e1,hmr⟩:=(HQR.out _ HE.out.bel).cell hjlt;rw [Nat.mul_one] at e1;obtain ⟨x,hx⟩:∃x,c.queue[j]=x:=⟨_,rfl⟩;rw [hx] at e1 hmr;subst ho2;have HC:=Lib.hid (HE.out.putL HT.out mc HB.out hmr (by
        obtain ⟨r,hr⟩:=HSP.out;exact HOK.out _ ((c.queue.drop (j+1)).flatten ++ r) (by
         have h9:=flat_at id hjlt;simp only [List.map_id,id] at h9;rw [hr];unfold chanN;rw [h9,hx];simp)))
       have HNJ:Hid (pre1 s i ++ [c.shape] ++ [(c.queue.length:Int)] ++ (c.queue.take j).flatten ++ x=pre1 s i ++ [c.shape] ++ [(c.queue.length:Int)] ++ (c.queue.take (j+1)).flatten):=Lib.hid (by
        rw [List.take_succ_eq_append_getElem hjlt,hx];simp)
       clear hmr hx hg2B;go_wp2_with fail;refine HC.out.mono ?_;rintro e W6 hput;obtain rfl:=hput.1;have HE7:Hid (Ec w SC p q (pre1 s i ++ [c.shape] ++ [(c.queue.length:Int)] ++ (c.queue.take (j+1)).flatten) W6):=Lib.hid (by rw [←HNJ.out];exact HE.out.put hput);clear hput HC HE HNJ e1;go_wp2_with fail;go_roundw;case rel=>exact ⟨j+1,by go_num,by omega,HE7⟩
       case measure=>simp [intOf];omega
     · have hjlti:¬ (j:Int) < c.queue.length:=by omega
       have HE7:Hid (Ec w SC p q (pre1 s (i+1)) wr):=Lib.hid (by
        have h9:=HE.out;rw [List.take_of_length_le (by omega)] at h9;rw [HNX.out];have e:pre1 s i ++ chanN c=pre1 s i ++ [c.shape] ++ [(c.queue.length:Int)] ++ c.queue.flatten:=by unfold chanN;simp
        rw [e];exact h9)
       clear HE;go_wp2_with fail;go_roundw;case rel=>exact ⟨i+1,by go_num,by omega,HE7⟩
       case measure=>simp [intOf];omega
  · have hlti:¬ (i:Int) < s.chans.length:=by omega
    have HEp:Hid (Ec w SC p q (pre1 s s.chans.length) wr):=Lib.hid (by rw [show s.chans.length=i by omega];exact HE.out);clear HE;obtain ⟨-,-,x2,-,-,-⟩:=HCE.out wr _ HEp.out;have y2:=HEp.out.fn;have HC:=Lib.hid (HEp.out.put1 HT.out (x:=(s.procs.length:Int)) (by
     rw [pre1_end];exact HOK.out _ (procsN s.procs ++ [s.last,s.alone,s.claim]) (by unfold numsOf pre2;simp [procsN])))
    rw [pre1_end] at HC;go_wp2_with fail;go_upto_region 18 with (refine HC.out.mono ?_;rintro e W2 hput;obtain rfl:=hput.1;have HE2:=Lib.hid (HEp.out.put hput);clear hput)
    clear HC HEp x2 y2;obtain ⟨-,-,x2,-,-,-⟩:=HCE.out W2 _ HE2.out;obtain ⟨op,hop⟩:∃o,hs.po=o:=⟨_,rfl⟩;have HOP:=Lib.hid hop;rw [hop] at x2;clear hop;go_wp2_with fail
    go_loopw [59] (fun iv W=>∃i:Nat,iv= .int .i64 i∧i≤s.procs.length∧Hid (Ec w SC p q (pre2 s i) W)) (fun iv _=>s.procs.length - (intOf iv).toNat)
    case atStart=>exact ⟨0,rfl,by omega,HE2⟩
    case round=>
     clear HE2 x2;obtain ⟨j,rfl,hj,HE⟩:=hrel;have hj0: (0:Int)≤j:=by omega
     by_cases hjl:j < s.procs.length
     · have hjli: (j:Int) < s.procs.length:=by omega
       obtain ⟨g,off,ho,hgB,hca⟩:=(HSD.out _ HE.out.bel).procs.cell hjl;obtain ⟨c,hc⟩:∃c,s.procs[j]=c:=⟨_,rfl⟩;have HNX:Hid (pre2 s (j+1)=pre2 s j ++ procN c):=Lib.hid (by rw [←hc];exact pre2_succ hjl);have HSP:Hid (∃r,numsOf s=pre2 s j ++ (procN c ++ r)):=Lib.hid (by rw [←hc];exact pre2_split hjl);rw [hc] at hca;obtain ⟨qo,qc,c3,hqr⟩:=hca.frame;have c0:=hca.c0;have c1:=hca.c1;have c2:=hca.c2;have HQR:Hid (∀W,Below w.heap.size w W→Row B qo 1 (intAt W) c.frame):=Lib.hid fun W hb=>hqr.mono fun g a x hg h=>by
        have hgw:g < w.heap.size:=Nat.lt_of_lt_of_le hg HB.out;exact (hb.cell (p:=⟨g,a,none⟩) hgw).trans ((HE.out.bel.cell (p:=⟨g,a,none⟩) hgw).symm.trans h)
       have hql:=hqr.1;rw [HOP.out] at ho;subst ho;clear hca hqr hc hgB;obtain ⟨W3,hW3⟩:∃W,W=wr.alloc (.cells #[.int .i64 c.type,.int .i64 c.loc,.int .i64 c.prio,.slice qo c.frame.length qc] 39):=⟨_,rfl⟩;have HBa:Hid (Below wr.heap.size wr W3):=Lib.hid (by rw [hW3];exact ball _);have HEa:Hid (Ec w SC p q (pre2 s j) W3):=Lib.hid (HE.out.below HBa.out);have HXa:Hid (W3.heap[wr.heap.size]? =some (.cells #[.int .i64 c.type,.int .i64 c.loc,.int .i64 c.prio,.slice qo c.frame.length qc] 39 (0,0))):=Lib.hid (by rw [hW3];exact heap_alloc_new _ _);go_upto_region 21 with fail
       rw [←hW3];obtain ⟨cb,hcb⟩:∃cb,wr.heap.size=cb:=⟨_,rfl⟩;rw [hcb] at HXa ⊢;clear hW3 hcb HE c0 c1 c2 c3;have y3:=HEa.out.fn;have b0:W3.cell? ⟨cb,0,none⟩=some (.int .i64 c.type):=(cell_of_row _ _ 0 _ _ _ HXa.out).trans rfl;have HC:=Lib.hid (HEa.out.put1 HT.out (x:=c.type) (by
        obtain ⟨r,hr⟩:=HSP.out;exact HOK.out _ (c.loc :: (c.frame ++ r)) (by rw [hr];unfold procN;simp)))
       go_upto_region 22 with (refine HC.out.mono ?_;rintro e W4 hput;obtain rfl:=hput.1;have HE4:=Lib.hid (HEa.out.put hput);have HX4:=Lib.hid (hput.keep HEa.out.bx HXa.out (by simp) (by simp));clear hput)
       clear HC HEa HXa y3 b0;have y4:=HE4.out.fn;have b1:W4.cell? ⟨cb,1,none⟩=some (.int .i64 c.loc):=(cell_of_row _ _ 1 _ _ _ HX4.out).trans rfl;have HC:=Lib.hid (HE4.out.put1 HT.out (x:=c.loc) (by
        obtain ⟨r,hr⟩:=HSP.out;exact HOK.out _ (c.frame ++ r) (by rw [hr];unfold procN;simp)))
       go_upto_region 23 with (refine HC.out.mono ?_;rintro e W5 hput;obtain rfl:=hput.1;have HE5:=Lib.hid (HE4.out.put hput);have HX5:=Lib.hid (hput.keep HE4.out.bx HX4.out (by simp) (by simp));clear hput)
       clear HC HE4 HX4 y4 b1;have b3:W5.cell? ⟨cb,3,none⟩=some (.slice qo c.frame.length qc):=(cell_of_row _ _ 3 _ _ _ HX5.out).trans rfl;have HC:=Lib.hid (HE5.out.putL HT.out qc HB.out (HQR.out _ HE5.out.bel) (by
        obtain ⟨r,hr⟩:=HSP.out;exact HOK.out _ r (by rw [hr];unfold procN;simp)))
       go_wp2_with fail;refine HC.out.mono ?_;rintro e W6 hput;obtain rfl:=hput.1;have HE7:Hid (Ec w SC p q (pre2 s (j+1)) W6):=Lib.hid (by
        have h9:=HE5.out.put hput;rw [HNX.out];have e:pre2 s j ++ procN c=pre2 s j ++ [c.type] ++ [c.loc] ++ c.frame:=by unfold procN;simp
        rw [e];exact h9)
       clear hput HC HE5 HX5 HQR b3;go_wp2_with fail;go_roundw;case rel=>exact ⟨j+1,by go_num,by omega,HE7⟩
       case measure=>simp [intOf];omega
     · have hjli:¬ (j:Int) < s.procs.length:=by omega
       have HEp:Hid (Ec w SC p q (pre2 s s.procs.length) wr):=Lib.hid (by rw [show s.procs.length=j by omega];exact HE.out);clear HE;obtain ⟨-,-,-,x3,-,-⟩:=HCE.out wr _ HEp.out;have y3:=HEp.out.fn;have HN:=Lib.hid (pre2_end s);have HC:=Lib.hid (HEp.out.put1 HT.out (x:=s.last) (HOK.out _ [s.alone,s.claim] (by rw [←HN.out];simp)));go_wp2_with fail;go_upto_region 26 with (refine HC.out.mono ?_;rintro e W3 hput;obtain rfl:=hput.1;have HE3:=Lib.hid (HEp.out.put hput);clear hput)
       clear HC HEp x3 y3;obtain ⟨-,-,-,-,x4,-⟩:=HCE.out W3 _ HE3.out;have y4:=HE3.out.fn;have HC:=Lib.hid (HE3.out.put1 HT.out (x:=s.alone) (HOK.out _ [s.claim] (by rw [←HN.out];simp)));go_upto_region 27 with (refine HC.out.mono ?_;rintro e W4 hput;obtain rfl:=hput.1;have HE4:=Lib.hid (HE3.out.put hput);clear hput)
       clear HC HE3 x4 y4;obtain ⟨-,-,-,-,-,x5⟩:=HCE.out W4 _ HE4.out;have y5:=HE4.out.fn;have HC:=Lib.hid (HE4.out.put1 HT.out (x:=s.claim) (HOK.out _ [] (by rw [←HN.out];simp)));go_upto_region 28 with (refine HC.out.mono ?_;rintro e W5 hput;obtain rfl:=hput.1;have HE5:=Lib.hid (HE4.out.put hput);clear hput)
       clear HC HE4 x5 y5;have HE6:Hid (Ec w SC p q (numsOf s) W5):=Lib.hid (by
        rw [←HN.out];have h9:=HE5.out;simp only [List.append_assoc,List.cons_append,List.nil_append] at h9;exact h9)
       clear HE5;obtain ⟨oo,oc2,hb5,ho5⟩:=HE6.out.bx;have HB5:=Lib.hid HE6.out.bel;have x6:W5.cell? ⟨p,0,none⟩=some (.slice oo (textS s).length oc2):=(cell_of_row _ _ 0 _ _ _ hb5).trans rfl;have HCV:Hid ((convert 119 9 (.slice oo (textS s).length oc2)).run Tryz.prog W5= .ok (.string ⟨(textS s).toArray⟩) W5):=Lib.hid (str_back ho5 (text_pos s));clear hb5 ho5 HE6;have hcv:=HCV.out;go_wp2_with fail;go_ret;exact ⟨rfl,HB5.out⟩
end Go.Proofs.YtnoibjahliafpaaGreatDoor
namespace Go.Proofs.YtnoibjahliafpaaGreatDoor
open Go.ChangeShapes Go.WideShapes Go.ChangeAt Go.RowKit
def encT (m:ModelD) (s:StateD):List UInt8:=if stateE m s=0 then textS s else []
theorem stateE_ok {m:ModelD} {s:StateD} (h:stateE m s=0):goodB m=true∧mayB m s=true:=by
 unfold stateE at h;split at h
 · rename_i h1
   split at h
   · rename_i h2
     exact ⟨h1,h2⟩
   · cases h
 · cases h
theorem ok_stateE {m:ModelD} {s:StateD} (h1:goodB m=true) (h2:mayB m s=true):stateE m s=0:=by
 unfold stateE;rw [if_pos h1,if_pos h2]
structure StX (w:World) (p:Nat) (CS:Array Value) (h:SH) (s:StateD) (W:World):Prop where
 eq:CS=sCells h s
 bx:Bq w p CS 34 W
 sd:SD w.heap.size W h s
theorem StX.below {w W W':World} {p:Nat} {CS:Array Value} {h:SH} {s:StateD} (k:StX w p CS h s W) (hb:Below W.heap.size W W'):StX w p CS h s W':=⟨k.eq,k.bx.below hb,k.sd.below (hb.mono k.bx.bel.size)⟩
set_option maxRecDepth 100000 in
theorem StX.info {w W:World} {p:Nat} {CS:Array Value} {h:SH} {s:StateD} (k:StX w p CS h s W): (Tryz.prog.info? 34).map (·.size)=some CS.size:=by
 rw [k.eq];exact (by kernel_rfl: (Tryz.prog.info? 34).map (·.size)=some 6)
set_option maxHeartbeats 1000000 in
set_option maxRecDepth 100000 in
theorem encodeC {h:MH} {hs:SH} {m:ModelD} {s:StateD} (w:World) (hmd:MD w.heap.size w h m) (hsd:SD w.heap.size w hs s) (ht:TabW w):
 Calls Tryz.prog 21 #[mV h m,sV hs s] w fun e w'=>e= .returned (.tuple #[.string ⟨(encT m s).toArray⟩,.int .i64 (stateE m s)])∧Below w.heap.size w w':=by
 obtain ⟨CM,hCM⟩:∃c,c=mCells h m:=⟨_,rfl⟩;obtain ⟨CS,hCS⟩:∃c,c=sCells hs s:=⟨_,rfl⟩;have HMX:=Lib.hid ((Mx.new hmd hCM).below (ball (.cells CS 34)));have HSX:Hid (StX w (w.heap.size+1) CS hs s ((w.alloc (.cells CM 29)).alloc (.cells CS 34))):=Lib.hid (by
  have hb:Below w.heap.size w ((w.alloc (.cells CM 29)).alloc (.cells CS 34)):=((Below.refl _ _).alloc (Nat.le_refl _) _).alloc (by simp) _;exact ⟨hCS,⟨new_at (by simp),hb⟩,hsd.below hb⟩)
 have HT:=Lib.hid ht;have HCK:Hid (∀W,Mx w w.heap.size CM h m W→StX w (w.heap.size+1) CS hs s W→Calls Tryz.prog 16 #[.agg CM,.agg CS] W fun e w'=>e= .returned (.int .i64 (stateE m s))∧Below W.heap.size W w'):=Lib.hid fun W h1 h2=>by
  rw [h1.eq,h2.eq];exact stateCheckC W h1.bx.bel.size h1.md h2.sd
 have HEN:Hid (∀W,StX w (w.heap.size+1) CS hs s W→stateE m s=0→Calls Tryz.prog 46 #[.agg CS] W fun e w'=>e= .returned (.string ⟨(textS s).toArray⟩)∧Below W.heap.size W w'):=Lib.hid fun W h2 h0=>by
  rw [h2.eq];obtain ⟨g1,g2⟩:=stateE_ok h0;have v:=may_vl g1 g2;exact encodedC s hs W h2.bx.bel.size h2.sd (HT.out.below h2.bx.bel) ⟨v.ints,v.many⟩
 unfold mV sV;rw [←hCM,←hCS];clear hCM hCS hmd hsd ht;obtain ⟨e0,he0⟩:∃e,stateE m s=e:=⟨_,rfl⟩;have HE0:=Lib.hid he0;rw [he0] at HCK HEN ⊢;clear he0;go_enter Tryz.func21,Tryz.ntmps21;go_upto_region 1 with fail
 generalize (w.alloc (.cells CM 29)).alloc (.cells CS 34)=W1 at HMX HSX ⊢;go_wp2_with (first | refine wpList_load_row rfl _ _ rfl _ rfl _ CM _ _ HMX.out.bx.box Tryz.underlying29 rfl HMX.out.info ?_ | refine wpList_load_row rfl _ _ rfl _ rfl _ CS _ _ HSX.out.bx.box Tryz.underlying34 rfl HSX.out.info ?_);refine (HCK.out W1 HMX.out HSX.out).mono ?_;rintro e W2 ⟨rfl,hb2⟩;have HSX2:=Lib.hid (HSX.out.below hb2);clear hb2 HMX HSX HCK;by_cases h0:e0=0
 · have HE:=Lib.hid (HEN.out W2 HSX2.out h0);have HZ:Hid (encT m s=textS s):=Lib.hid (by unfold encT;rw [if_pos (HE0.out.trans h0)]);have HZ0:=Lib.hid h0;have d: (e0 != 0)=false:=by rw [bne_eq_false_iff_eq];exact h0
   clear h0;go_wp2_with (refine wpList_load_row rfl _ _ rfl _ rfl _ CS _ _ HSX2.out.bx.box Tryz.underlying34 rfl HSX2.out.info ?_);refine HE.out.mono ?_;rintro e W3 ⟨rfl,hb3⟩;have HB3:=Lib.hid (HSX2.out.bx.bel.trans (hb3.mono HSX2.out.bx.bel.size));clear hb3;go_wp2_with fail;go_ret2;exact ⟨by (rw [HZ.out,HZ0.out]) <;> rfl,HB3.out⟩
 · have HZ:Hid (encT m s= []):=Lib.hid (by unfold encT;rw [if_neg (by rw [HE0.out];exact h0)]);have d: (e0 != 0)=true:=by rw [bne_iff_ne];exact h0
   clear h0;go_wp2_with fail;go_ret2;exact ⟨by (rw [HZ.out]) <;> rfl,HSX2.out.bx.bel⟩
end Go.Proofs.YtnoibjahliafpaaGreatDoor
namespace Go.Proofs.YtnoibjahliafpaaGreatDoor
open Go.ChangeShapes Go.WideShapes Go.ChangeAt Go.RowKit
set_option maxRecDepth 100000 in
set_option maxHeartbeats 1000000 in
theorem typed12H {B:Nat} (t:List (Int × Bool)) (v:List Int) (o1 o2:Option Addr) (c1 c2:Nat) (w:World) (hB:B≤w.heap.size) (h1:Row B o1 2 (tyAt w) t) (h2:Row B o2 1 (intAt w) v)
 :
 Calls Tryz.prog 62 #[.slice o1 t.length c1,.slice o2 v.length c2] w fun e w'=>e= .returned (.bool (fitsL t v))∧Below w.heap.size w w':=by
 have H1:=Lib.hid h1;have H2:=Lib.hid h2;have HBB:=Lib.hid hB;have n1:=h1.1;have n2:=h2.1;have HB0:Hid (Below w.heap.size w w):=Lib.hid (Below.refl _ _);clear h1 h2 hB;by_cases hl:v.length=t.length;rotate_left
 · have hne: ((t.length:Int) != (v.length:Int))=true:=by rw [bne_iff_ne];omega
   have HZ:Hid (fitsL t v=false):=Lib.hid (by unfold fitsL;rw [decide_eq_false hl];rfl);clear hl;go_enter Tryz.func62,Tryz.ntmps62;go_wp2_with fail;go_ret;exact ⟨retB HZ.out.symm,HB0.out⟩
 have HL:=Lib.hid hl;have hne: ((t.length:Int) != (v.length:Int))=false:=by rw [bne_eq_false_iff_eq];omega
 have HV:Hid (fitsL t v= (t.zip v).all fitZ):=Lib.hid (by unfold fitsL;rw [decide_eq_true hl];rfl);clear hl;go_enter Tryz.func62,Tryz.ntmps62;go_wp2_with fail
 go_loopw [5] (fun i wr=>∃k:Nat,i= .int .i64 k∧k≤t.length∧Hid (∀j (hj:j < (t.zip v).length),j < k→fitZ (t.zip v)[j]=true)∧Hid (Below w.heap.size w wr)) (fun i _=>t.length - (intOf i).toNat)
 case atStart=>exact ⟨0,rfl,by omega,Lib.hid fun j _ h=>by omega,HB0⟩
 case round=>
  clear HB0;obtain ⟨k,rfl,hk,HJ,HB⟩:=hrel;have hk0: (0:Int)≤k:=by omega
  by_cases hlt:k < t.length
  · have hlti: (k:Int) < t.length:=by omega
    have hlt2:k < v.length:=by have:=HL.out;omega
    have hlti2: (k:Int) < v.length:=by omega
    obtain ⟨g,off,hog,hg,t0,t1⟩:=(H1.out.mono fun _ _ _ hg=>tyAt.below (HB.out.mono HBB.out) hg).cell hlt;obtain ⟨g2,off2,hog2,hg2,e2⟩:=(H2.out.mono fun _ _ _ hg=>intAt.below (HB.out.mono HBB.out) hg).cell hlt2;subst hog hog2;obtain ⟨hz,hzip⟩:=zip_getH hlt hlt2;obtain ⟨⟨b,sg⟩,hbs⟩:∃x,t[k]=x:=⟨_,rfl⟩;obtain ⟨x,hx⟩:∃x,v[k]=x:=⟨_,rfl⟩;rw [hbs] at t0 t1 hzip;rw [hx] at hzip;have HBAD:Hid (fitB b sg x=false→fitsL t v=false):=Lib.hid fun h=>by rw [HV.out,all_bad hz (by rw [hzip];exact h)]
    have HGO:Hid (fitB b sg x=true→∀j (hj:j < (t.zip v).length),j < k+1→fitZ (t.zip v)[j]=true):=Lib.hid fun h j hj hjk=>by
     by_cases e:j=k
     · subst e;rw [hzip];exact h
     · exact HJ.out j hj (by omega)
    have e3:wr.cell? ⟨g2,off2+k,none⟩=some (.int .i64 x):=by
     have:=e2;unfold intAt at this;rw [Nat.mul_one,hx] at this;exact this
    simp only at t0 t1;clear hbs hx e2 hz hzip hg hg2;go_wp2_with fail;go_still_tail 8,(by kernel_rfl);change wpList _ _ _ _ _ wr.drew;have HWD:Hid (Below w.heap.size w wr.drew):=Lib.hid HB.out.drew;generalize wr.drew=W2 at HWD ⊢;clear t0 t1 e3;go_wp2_with fail;refine (fitsH b sg x W2).mono ?_;rintro e W3 ⟨rfl,hb3⟩;have HW3:=Lib.hid (HWD.out.trans (hb3.mono HWD.out.size));clear hb3;obtain ⟨u,hu⟩:∃u,fitB b sg x=u:=⟨_,rfl⟩;rw [hu];have HU:=Lib.hid hu;clear hu;cases u
    · have HZ:=Lib.hid (HBAD.out HU.out);go_wp2_with fail;go_ret;exact ⟨retB HZ.out.symm,HW3.out⟩
    · have HZ:=Lib.hid (HGO.out HU.out);go_wp2_with fail;go_roundw;case rel=>exact ⟨k+1,by go_num,by omega,HZ,HW3⟩
      case measure=>simp [intOf];omega
  · have hlti:¬ (k:Int) < t.length:=by omega
    have HZ:Hid (fitsL t v=true):=Lib.hid (by rw [HV.out];exact all_of fun j hj=>HJ.out j hj (by rw [List.length_zip] at hj;omega));go_wp2_with fail;go_ret;exact ⟨retB HZ.out.symm,HB.out⟩
end Go.Proofs.YtnoibjahliafpaaGreatDoor
