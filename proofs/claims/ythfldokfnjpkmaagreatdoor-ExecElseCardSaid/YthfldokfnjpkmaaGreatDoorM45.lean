/- exec.Able: every model and state. -/
import Derived.Test.YthfldokfnjpkmaaGreatDoorM32
set_option linter.unusedVariables false
set_option linter.unusedSimpArgs false
namespace Go.Proofs.YthfldokfnjpkmaaGreatDoor
open Go.ChangeShapes Go.WideShapes Go.ChangeAt Go.RowKit
def envA (m:ModelD) (s:StateD) (i:Int):EnvD:=⟨m,s,i,false,[]⟩
def goesA (m:ModelD) (s:StateD) (i:Nat):Bool:=decide (0 < (waysF (envA m s i)).length)
def ableT (m:ModelD) (s:StateD) (n i:Nat):List Bool:=(List.range n).map fun j=>decide (j < i) && goesA m s j
def ableF (m:ModelD) (s:StateD):List Bool:=(List.range s.procs.length).map (goesA m s)
theorem ableT_all (m:ModelD) (s:StateD):ableT m s s.procs.length s.procs.length=ableF m s:=by
 unfold ableT ableF;refine List.map_congr_left fun j hj=> ?_
 rw [decide_eq_true (List.mem_range.1 hj),Bool.true_and]
theorem ableT_zero (m:ModelD) (s:StateD) (n:Nat):ableT m s n 0=List.replicate n false:=by
 unfold ableT;refine List.ext_getElem (by simp) fun j h1 h2=> ?_
 simp
theorem ableT_set (m:ModelD) (s:StateD) (n i:Nat) (h:i < n): (ableT m s n i).set i (goesA m s i)=ableT m s n (i+1):=by
 unfold ableT;refine List.ext_getElem (by simp) fun j h1 h2=> ?_
 rw [List.getElem_set];simp only [List.getElem_map,List.getElem_range];split
 · rename_i hj
   subst hj;simp
 · rename_i hj
   congr 1;rw [decide_eq_decide];omega
theorem ableT_len (m:ModelD) (s:StateD) (n i:Nat): (ableT m s n i).length=n:=by unfold ableT;simp
theorem made_bools (n:Nat): (madeCells #[Value.bool false] n).toList=boolsV (List.replicate n false):=by
 unfold boolsV madeCells;refine List.ext_getElem (by simp) fun j h1 h2=> ?_
 simp [Nat.mod_one]
structure AB (w0:World) (h:MH) (hs:SH) (m:ModelD) (s:StateD) (eb gb i:Nat) (W:World):Prop where
 bel:Below w0.heap.size w0 W
 box:∃p,W.heap[eb]? =some (.cells (eCells h hs none 0 (envA m s p)) 36 (0,0))
 row:W.ownsRow w0.heap.size 4 1 (.slice (some ⟨gb,0,none⟩) s.procs.length s.procs.length) s.procs.length (boolsV (ableT m s s.procs.length i))
 ne:gb≠eb
 ge:w0.heap.size≤gb∧w0.heap.size≤eb
 md:MD w0.heap.size w0 h m
 sd:SD w0.heap.size w0 hs s
 no:NoneP w0
section
variable {w0 W W':World} {h:MH} {hs:SH} {m:ModelD} {s:StateD} {eb gb i:Nat}
theorem AB.below (k:AB w0 h hs m s eb gb i W) (hb:Below W.heap.size W W'):AB w0 h hs m s eb gb i W':=by
 obtain ⟨p,hp⟩:=k.box;exact ⟨k.bel.trans (hb.mono k.bel.size),⟨p,(hb.block _ (lt_of_block hp)).trans hp⟩,owns_below k.row hb,k.ne,k.ge,k.md,k.sd,k.no⟩
theorem AB.pid (k:AB w0 h hs m s eb gb i W) (q:Int): (∃v,W.cell? ⟨eb,13,none⟩=some v)∧W.frozen? ⟨eb,13,none⟩=false∧AB w0 h hs m s eb gb i (W.setCell ⟨eb,13,none⟩ (.int .i64 q))∧ (W.setCell ⟨eb,13,none⟩ (.int .i64 q)).heap[eb]? =some (.cells (eCells h hs none 0 (envA m s q)) 36 (0,0)):=by
 obtain ⟨p,hp⟩:=k.box;have h4: (W.setCell ⟨eb,13,none⟩ (.int .i64 q)).heap[eb]? =some (.cells (eCells h hs none 0 (envA m s q)) 36 (0,0)):=(heap_setCell_same _ _ _ _ _ _ hp).trans rfl;exact ⟨⟨_,(cell_of_row _ _ 13 _ _ _ hp).trans rfl⟩,frozen_of_row _ _ _ _ _ hp,⟨k.bel.setCell k.ge.2 _,⟨q,h4⟩,owns_set k.row _ _ (fun e=>k.ne (by injection e)),k.ne,k.ge,k.md,k.sd,k.no⟩,h4⟩
theorem AB.put (k:AB w0 h hs m s eb gb i W) (hi:i < s.procs.length): (∃v,W.cell? ⟨gb,i,none⟩=some v)∧W.frozen? ⟨gb,i,none⟩=false∧AB w0 h hs m s eb gb (i+1) (W.setCell ⟨gb,i,none⟩ (.bool (goesA m s i))):=by
 obtain ⟨p,hp⟩:=k.box;have h1:=(k.row.stored i (.bool (goesA m s i))).1;have hlen:i < (boolsV (ableT m s s.procs.length i)).length:=by unfold boolsV;rw [List.length_map,ableT_len];exact hi
 have hc:=k.row.cells (g:=gb) rfl i _ (List.getElem?_eq_getElem hlen);rw [held.add_off,Nat.zero_add] at hc;have hf:W.frozen? ⟨gb,i,none⟩=false:=by
  obtain ⟨c,fz,hh⟩:∃c,∃fz:Nat × Nat,W.heap[gb]? =some (.cells c 4 fz)∧fz= (0,0):=by
   rcases k.row.2 with ⟨h',_⟩ | ⟨g',cap',cur,h',_,hg,_⟩
   · simp at h'
   · simp only [Value.slice.injEq,Option.some.injEq,Addr.mk.injEq,and_true,true_and] at h';obtain ⟨rfl,rfl⟩:=h';exact ⟨cur,_,hg,rfl⟩
  obtain ⟨hh,rfl⟩:=hh;exact frozen_of_row _ _ _ _ _ hh
 refine ⟨⟨_,hc⟩,hf,k.bel.setCell k.ge.1 _,⟨p, ?_⟩, ?_,k.ne,k.ge,k.md,k.sd,k.no⟩
 · rw [heap_setCell_other _ _ _ _ (by show eb≠gb;exact fun e=>k.ne e.symm)];exact hp
 · rw [←ableT_set m s _ i hi];unfold boolsV at h1 ⊢;rw [List.map_set];exact h1
end
def AbleX (m:ModelD) (s:StateD) (w:World) (e:Ending) (w':World):Prop:=Below w.heap.size w w'∧ (stateE m s≠0→e= .returned (.tuple #[.slice none 0 0,.int .i64 (stateE m s)]))∧ (stateE m s=0→∃gb,e= .returned (.tuple #[.slice (some ⟨gb,0,none⟩) s.procs.length s.procs.length,.int .i64 0])∧w'.ownsRow w.heap.size 4 1 (.slice (some ⟨gb,0,none⟩) s.procs.length s.procs.length) s.procs.length (boolsV (ableF m s)))
set_option maxHeartbeats 4000000 in
set_option maxRecDepth 100000 in
theorem xAbleC {h:MH} {hs:SH} {m:ModelD} {s:StateD} (w:World) (hm:MD w.heap.size w h m) (hsd:SD w.heap.size w hs s) (hno:NoneP w):
 Calls Tryz.prog 15 #[mV h m,sV hs s] w (AbleX m s w):=by
 have HM:=Lib.hid hm;have HSD:=Lib.hid hsd;have HNO:=Lib.hid hno;have hpl:=hsd.procs.1;clear hm hsd hno;unfold mV sV mCells sCells;go_enter Tryz.func15,Tryz.ntmps15;go_upto_region 1 with fail
 have hn1:=heap_alloc_new w (.cells #[.slice h.go m.globals.length h.gc,.slice h.io m.init.length h.ic,.slice h.so m.shapes.length h.sc,.slice h.co m.chans.length h.cc,.slice h.po m.procs.length h.pc,.int .i64 m.claim,.slice h.eo m.exprs.length h.ec] 29);have hn2:=heap_alloc_new (w.alloc (.cells #[.slice h.go m.globals.length h.gc,.slice h.io m.init.length h.ic,.slice h.so m.shapes.length h.sc,.slice h.co m.chans.length h.cc,.slice h.po m.procs.length h.pc,.int .i64 m.claim,.slice h.eo m.exprs.length h.ec] 29)) (.cells #[.slice hs.go s.globals.length hs.gc,.slice hs.co s.chans.length hs.cc,.slice hs.po s.procs.length hs.pc,.int .i64 s.last,.int .i64 s.alone,.int .i64 s.claim] 33);have hb1:=ball (w:=w.alloc (.cells #[.slice h.go m.globals.length h.gc,.slice h.io m.init.length h.ic,.slice h.so m.shapes.length h.sc,.slice h.co m.chans.length h.cc,.slice h.po m.procs.length h.pc,.int .i64 m.claim,.slice h.eo m.exprs.length h.ec] 29)) (.cells #[.slice hs.go s.globals.length hs.gc,.slice hs.co s.chans.length hs.cc,.slice hs.po s.procs.length hs.pc,.int .i64 s.last,.int .i64 s.alone,.int .i64 s.claim] 33);have hsz: (w.alloc (.cells #[.slice h.go m.globals.length h.gc,.slice h.io m.init.length h.ic,.slice h.so m.shapes.length h.sc,.slice h.co m.chans.length h.cc,.slice h.po m.procs.length h.pc,.int .i64 m.claim,.slice h.eo m.exprs.length h.ec] 29)).heap.size=w.heap.size+1:=by simp
 rw [hsz] at hn2;have hn1':=(hb1.block _ (by rw [hsz];omega)).trans hn1;have HB0:Hid (Below w.heap.size w ((w.alloc (.cells #[.slice h.go m.globals.length h.gc,.slice h.io m.init.length h.ic,.slice h.so m.shapes.length h.sc,.slice h.co m.chans.length h.cc,.slice h.po m.procs.length h.pc,.int .i64 m.claim,.slice h.eo m.exprs.length h.ec] 29)).alloc (.cells #[.slice hs.go s.globals.length hs.gc,.slice hs.co s.chans.length hs.cc,.slice hs.po s.procs.length hs.pc,.int .i64 s.last,.int .i64 s.alone,.int .i64 s.claim] 33))):=Lib.hid ((ball _).trans (hb1.mono (by rw [hsz];omega)));clear hn1 hb1 hsz;generalize (w.alloc (.cells #[.slice h.go m.globals.length h.gc,.slice h.io m.init.length h.ic,.slice h.so m.shapes.length h.sc,.slice h.co m.chans.length h.cc,.slice h.po m.procs.length h.pc,.int .i64 m.claim,.slice h.eo m.exprs.length h.ec] 29)).alloc (.cells #[.slice hs.go s.globals.length hs.gc,.slice hs.co s.chans.length hs.cc,.slice hs.po s.procs.length hs.pc,.int .i64 s.last,.int .i64 s.alone,.int .i64 s.claim] 33)=W0 at hn1' hn2 HB0 ⊢;have HQ:Hid (∀W,Below W0.heap.size W0 W→W.cell? ⟨w.heap.size,0,none⟩=some (.slice h.go m.globals.length h.gc)∧W.cell? ⟨w.heap.size,1,none⟩=some (.slice h.io m.init.length h.ic)∧W.cell? ⟨w.heap.size,2,none⟩=some (.slice h.so m.shapes.length h.sc)∧W.cell? ⟨w.heap.size,3,none⟩=some (.slice h.co m.chans.length h.cc)∧W.cell? ⟨w.heap.size,4,none⟩=some (.slice h.po m.procs.length h.pc)∧W.cell? ⟨w.heap.size,5,none⟩=some (.int .i64 m.claim)∧W.cell? ⟨w.heap.size,6,none⟩=some (.slice h.eo m.exprs.length h.ec)∧W.cell? ⟨w.heap.size+1,0,none⟩=some (.slice hs.go s.globals.length hs.gc)∧W.cell? ⟨w.heap.size+1,1,none⟩=some (.slice hs.co s.chans.length hs.cc)∧W.cell? ⟨w.heap.size+1,2,none⟩=some (.slice hs.po s.procs.length hs.pc)∧W.cell? ⟨w.heap.size+1,3,none⟩=some (.int .i64 s.last)∧W.cell? ⟨w.heap.size+1,4,none⟩=some (.int .i64 s.alone)∧W.cell? ⟨w.heap.size+1,5,none⟩=some (.int .i64 s.claim)):=Lib.hid fun W hb=>by
  have k1:=(hb.block _ (lt_of_block hn1')).trans hn1';have k2:=(hb.block _ (lt_of_block hn2)).trans hn2;exact ⟨(cell_of_row _ _ _ _ _ _ k1).trans rfl,(cell_of_row _ _ _ _ _ _ k1).trans rfl,(cell_of_row _ _ _ _ _ _ k1).trans rfl,(cell_of_row _ _ _ _ _ _ k1).trans rfl,(cell_of_row _ _ _ _ _ _ k1).trans rfl,(cell_of_row _ _ _ _ _ _ k1).trans rfl,(cell_of_row _ _ _ _ _ _ k1).trans rfl,(cell_of_row _ _ _ _ _ _ k2).trans rfl,(cell_of_row _ _ _ _ _ _ k2).trans rfl,(cell_of_row _ _ _ _ _ _ k2).trans rfl,(cell_of_row _ _ _ _ _ _ k2).trans rfl,(cell_of_row _ _ _ _ _ _ k2).trans rfl,(cell_of_row _ _ _ _ _ _ k2).trans rfl⟩
 clear hn1' hn2;obtain ⟨m0,m1,m2,m3,m4,m5,m6,s0,s1,s2,s3,s4,s5⟩:=HQ.out W0 (Below.refl _ _);go_wp2_with fail;have HSC:=Lib.hid (stateCheckC W0 HB0.out.size (HM.out.below HB0.out) (HSD.out.below HB0.out));unfold mV mCells sV sCells at HSC;refine HSC.out.mono ?_;rintro e W1 ⟨rfl,hb1⟩;have HB1:=Lib.hid hb1;clear hb1 HSC m0 m1 m2 m3 m4 m5 m6 s0 s1 s2 s3 s4 s5;obtain ⟨er,her⟩:∃q,stateE m s=q:=⟨_,rfl⟩;rw [her];have HER:=Lib.hid her;clear her;have HBW:Hid (∀W,Below W0.heap.size W0 W→Below w.heap.size w W):=Lib.hid fun W hb=>HB0.out.trans (hb.mono HB0.out.size)
 by_cases h0:er=0;rotate_left
 · have hd0: (er != 0)=true:=by rw [bne_iff_ne];exact h0
   have HP:Hid (AbleX m s w (.returned (.tuple #[.slice none 0 0,.int .i64 er])) W1):=Lib.hid ⟨HBW.out W1 HB1.out,fun _=>by rw [HER.out],fun h=>absurd (HER.out.symm.trans h) h0⟩;clear h0;go_wp2_with fail;refine bodyPost_ret (v:= .tuple #[.slice none 0 0,.int .i64 er]) (by simp [results,Tryz.results15,go_sem]) rfl ?_;exact HP.out
 have hd0: (er != 0)=false:=by rw [bne_eq_false_iff_eq];exact h0
 subst h0;obtain ⟨hgood,hmay⟩:goodB m=true∧mayB m s=true:=by
  have h3:=HER.out;unfold stateE at h3;split at h3
  · rename_i h4
    split at h3
    · rename_i h5
      exact ⟨h4,h5⟩
    · simp at h3
  · simp at h3
 have HGM:=Lib.hid (And.intro hgood hmay);have hfew:s.procs.length≤16:=ok_few (E:=envA m s (-1)) ⟨hgood,hmay,by show -1≤ (-1:Int)∧ (-1:Int) < (s.procs.length:Int);omega⟩;obtain ⟨i4,hi4,hz0,hz1,hz2⟩:=info_parts info_bool;have HI:=Lib.hid (And.intro hi4 (And.intro hz0 (And.intro hz1 hz2)));have HL1:Hid (s.procs.length≤maxLen):=Lib.hid (by unfold maxLen;omega);have HL2:Hid (i4.bytes*s.procs.length≤281474976710656):=Lib.hid (by rw [HI.out.2.2.2];omega);clear hi4 hz0 hz1 hz2 hgood hmay;obtain ⟨m0,m1,m2,m3,m4,m5,m6,s0,s1,s2,s3,s4,s5⟩:=HQ.out W1 HB1.out;go_wp2_with (refine wpList_make_full _ rfl _ _ 34 rfl W1.heap.size 4 i4 (.bool false) 1 Tryz.underlying34 HI.out.1 HI.out.2.1 HI.out.2.2.1 .i64 .i64 _ _ s.procs.length rfl rfl rfl rfl HL2.out HL1.out (Nat.le_refl _) ?_);intro W2 hown hgrow;have HB2:Hid (Below W0.heap.size W0 W2):=Lib.hid (HB1.out.grown hgrow HB1.out.size (fun k hk=>by cases hk));have HOW:=Lib.hid hown;have HGW:=Lib.hid hgrow;clear hown hgrow m0 m1 m2 m3 m4 m5 m6 s0 s1 s2 s3 s4 s5 hd0;go_upto_region 5 with fail
 obtain ⟨m0,m1,m2,m3,m4,m5,m6,s0,s1,s2,s3,s4,s5⟩:=HQ.out W2 HB2.out;go_upto_region 6 with fail
 clear m0 m1 m2 m3 m4 m5 m6 s0 s1 s2 s3 s4 s5;have hnb:=heap_alloc_new W2 (.cells (eCells h hs none 0 (envA m s 0)) 36);have hbb:=ball (w:=W2) (.cells (eCells h hs none 0 (envA m s 0)) 36);have HAB:Hid (AB w h hs m s W2.heap.size W1.heap.size 0 (W2.alloc (.cells (eCells h hs none 0 (envA m s 0)) 36))):=Lib.hid (by
  have h1:W1.heap.size < W2.heap.size:=(HOW.out.lt W1.heap.size rfl).2;have h2:w.heap.size≤W1.heap.size:=(HBW.out W1 HB1.out).size;refine ⟨(HBW.out W2 HB2.out).trans (hbb.mono (HBW.out W2 HB2.out).size),⟨0,hnb⟩, ?_,by omega,⟨h2,by omega⟩,HM.out,HSD.out,HNO.out⟩;have h3:=owns_below (Joins.ownsRow_le HOW.out h2) hbb;rw [show (madeCells #[Value.bool false] s.procs.length).toList=boolsV (ableT m s s.procs.length 0) from by rw [ableT_zero];exact made_bools _] at h3;exact h3)
 unfold eCells envA at HAB;generalize W2.alloc (.cells #[.slice h.go m.globals.length h.gc,.slice h.io m.init.length h.ic,.slice h.so m.shapes.length h.sc,.slice h.co m.chans.length h.cc,.slice h.po m.procs.length h.pc,.int .i64 m.claim,.slice h.eo m.exprs.length h.ec,.slice hs.go s.globals.length hs.gc,.slice hs.co s.chans.length hs.cc,.slice hs.po s.procs.length hs.pc,.int .i64 s.last,.int .i64 s.alone,.int .i64 s.claim,.int .i64 0,.bool false,.slice none 0 0] 36)=W3 at HAB ⊢;clear hnb hbb HOW HGW HB2 HQ HI HL1 HL2;generalize W2.heap.size=eb at HAB ⊢;generalize W1.heap.size=gb at HAB ⊢;clear HB1 HBW HB0;have HN:Hid (s.procs.length≤16):=Lib.hid hfew;go_wp2_with fail
 go_loopw [25] (fun iv W'=>∃i:Nat,iv= .int .i64 i∧i≤s.procs.length∧Hid (AB w h hs m s eb gb i W')) (fun iv _=>s.procs.length - (intOf iv).toNat)
 case atStart=>exact ⟨0,rfl,by omega,HAB⟩
 case round=>
  clear HAB;obtain ⟨i,rfl,hi,HX⟩:=hrel;have hi0: (0:Int)≤i:=by omega
  by_cases hlt:i < s.procs.length;rotate_left
  · have hlti:¬ (i:Int) < s.procs.length:=by omega
    have hie:i=s.procs.length:=by omega
    have HP:Hid (AbleX m s w (.returned (.tuple #[.slice (some ⟨gb,0,none⟩) s.procs.length s.procs.length,.int .i64 0])) wr):=Lib.hid ⟨HX.out.bel,fun h=>absurd HER.out h,fun _=>⟨gb,rfl,by have:=HX.out.row;rw [hie,ableT_all] at this;exact this⟩⟩;clear hie;go_wp2_with fail;refine bodyPost_ret (v:= .tuple #[.slice (some ⟨gb,0,none⟩) s.procs.length s.procs.length,.int .i64 0]) (by simp [results,Tryz.results15,go_sem]) rfl ?_;exact HP.out
  have hlti: (i:Int) < s.procs.length:=by omega
  obtain ⟨⟨u13,y1⟩,y2,hab1,hbox1⟩:=HX.out.pid i;have HAB1:=Lib.hid hab1;have HBX1:=Lib.hid hbox1;clear hab1 hbox1;go_upto_region 10 with fail
  generalize wr.setCell ⟨eb,13,none⟩ (.int .i64 i)=W4 at HAB1 HBX1 ⊢;clear y1 y2;have HWC:=Lib.hid (xwaysC (B:=w.heap.size) W4 HBX1.out HAB1.out.bel.size ⟨HAB1.out.md.below HAB1.out.bel,HAB1.out.sd.below HAB1.out.bel,Row.nil _ _ _ _⟩ ⟨HGM.out.1,HGM.out.2,by show -1≤ (i:Int)∧ (i:Int) < (s.procs.length:Int);omega⟩ hi0 (HAB1.out.no.below HAB1.out.bel));have HGE:Hid (goesA m s i=decide (0 < (waysF (envA m s i)).length)):=Lib.hid rfl;obtain ⟨L,hL⟩:∃L,waysF (envA m s i)=L:=⟨_,rfl⟩;rw [hL] at HWC HGE;clear hL;go_wp2_with fail;refine HWC.out.mono ?_;rintro e W5 ⟨v,rfl,hr,hb⟩;obtain ⟨o1,c1,rfl⟩:=owns_head hr;obtain ⟨⟨u14,z1⟩,z2,hput⟩:=(HAB1.out.below hb).put hlt;have HPUT:=Lib.hid hput;clear hr hb hput HWC HX HBX1 HAB1;by_cases hpos:0 < L.length
  · rw [HGE.out,decide_eq_true hpos] at HPUT;go_wp2_with fail;go_roundw;case rel=>exact ⟨i+1,by go_num,by omega,HPUT⟩
    case measure=>simp [intOf];omega
  · rw [HGE.out,decide_eq_false hpos] at HPUT;go_wp2_with fail;go_roundw;case rel=>exact ⟨i+1,by go_num,by omega,HPUT⟩
    case measure=>simp [intOf];omega
end Go.Proofs.YthfldokfnjpkmaaGreatDoor
