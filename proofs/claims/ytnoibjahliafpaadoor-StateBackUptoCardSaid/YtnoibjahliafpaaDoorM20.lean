/- Rows of one's own, by key; a state whose rows are one's own. -/
import Derived.Test.YtnoibjahliafpaaDoorM19
import Derived.Laws.AppendOwn
set_option linter.unusedVariables false
set_option linter.unusedSimpArgs false
namespace Go.Proofs.YtnoibjahliafpaaDoor
open Go.ChangeShapes Go.WideShapes Go.ChangeAt Go.RowKit
structure RowS where
 e:TypeId
 size:Nat
 v:Value
 n:Nat
 xs:List Value
def rowNil:RowS:=⟨0,0,.slice none 0 0,0,[]⟩
def kG:Nat × Nat × Nat:=(0,0,0)
def kC:Nat × Nat × Nat:=(1,0,0)
def kP:Nat × Nat × Nat:=(2,0,0)
def kQ (i:Nat):Nat × Nat × Nat:=(3,i,0)
def kM (i j:Nat):Nat × Nat × Nat:=(4,i,j)
def kF (i:Nat):Nat × Nat × Nat:=(5,i,0)
structure Own (B:Nat) (w:World) (R:Nat × Nat × Nat→RowS):Prop where
 row:∀k,w.ownsRow B (R k).e (R k).size (R k).v (R k).n (R k).xs
 ne:∀k k',k≠k'→∀g,(R k).v.ownBlock=some g→ (R k').v.ownBlock≠some g
def upd (R:Nat × Nat × Nat→RowS) (k:Nat × Nat × Nat) (r:RowS):Nat × Nat × Nat→RowS:=fun q=>if q=k then r else R q
theorem upd_same (R:Nat × Nat × Nat→RowS) (k:Nat × Nat × Nat) (r:RowS):upd R k r k=r:=if_pos rfl
theorem upd_ne (R:Nat × Nat × Nat→RowS) {k q:Nat × Nat × Nat} (r:RowS) (h:q≠k):upd R k r q=R q:=if_neg h
theorem Own.nil (B:Nat) (w:World):Own B w (fun _=>rowNil):=⟨fun _=>World.ownsRow_nil _ _ _ _,fun _ _ _ g h=>by cases h⟩
theorem Own.below {B:Nat} {w w':World} {R:Nat × Nat × Nat→RowS} (h:Own B w R) (hb:Below w.heap.size w w'):Own B w' R:=⟨fun k=>owns_below (h.row k) hb,h.ne⟩
theorem Own.mono {B B':Nat} {w:World} {R:Nat × Nat × Nat→RowS} (h:Own B w R) (hB:B'≤B):Own B' w R:=⟨fun k=>Joins.ownsRow_le (h.row k) hB,h.ne⟩
theorem Own.put {B:Nat} {w w':World} {R:Nat × Nat × Nat→RowS} (h:Own B w R) (hB:B≤w.heap.size) (hb:Below w.heap.size w w') (k:Nat × Nat × Nat) (r:RowS) (hr:w'.ownsRow w.heap.size r.e r.size r.v r.n r.xs):Own B w' (upd R k r):=by
 refine ⟨fun q=> ?_,fun q q' hq g hg=> ?_⟩
 · by_cases e:q=k
   · rw [e,upd_same];exact Joins.ownsRow_le hr hB
   · rw [upd_ne R r e];exact owns_below (h.row q) hb
 · by_cases e:q=k
   · rw [e,upd_same] at hg;rw [upd_ne R r (fun e'=>hq (e.trans e'.symm))];intro h2;have:=((h.row q').lt g h2).2;have:=(hr.lt g hg).1;omega
   · rw [upd_ne R r e] at hg;by_cases e':q'=k
     · rw [e',upd_same];intro h2;have:=((h.row q).lt g hg).2;have:=(hr.lt g h2).1;omega
     · rw [upd_ne R r e'];exact h.ne q q' hq g hg
theorem Own.set {B:Nat} {w:World} {R:Nat × Nat × Nat→RowS} (h:Own B w R) (k:Nat × Nat × Nat) {g n c:Nat} (hv: (R k).v= .slice (some ⟨g,0,none⟩) n c) (hn: (R k).n=n) (j:Nat) (u:Value):Own B (w.setCell ⟨g,j,none⟩ u) (upd R k ⟨(R k).e,(R k).size,(R k).v,(R k).n,(R k).xs.set j u⟩):=by
 have hk:=h.row k;have hob: (R k).v.ownBlock=some g:=by rw [hv];rfl
 refine ⟨fun q=> ?_,fun q q' hq=> ?_⟩
 · by_cases e:q=k
   · rw [e,upd_same];simp only;rw [hv,hn] at hk ⊢;exact (hk.stored j u).1
   · rw [upd_ne R _ e];exact owns_set (h.row q) _ _ (fun h2=>h.ne k q (fun e2=>e e2.symm) g hob h2)
 · have key:∀q,(upd R k ⟨(R k).e,(R k).size,(R k).v,(R k).n,(R k).xs.set j u⟩ q).v= (R q).v:=fun q=>by
    by_cases e:q=k
    · rw [e,upd_same]
    · rw [upd_ne R _ e]
   rw [key,key];exact h.ne q q' hq
theorem Own.other {B:Nat} {w:World} {R:Nat × Nat × Nat→RowS} (h:Own B w R) (a:Addr) (u:Value) (hne:∀k,(R k).v.ownBlock≠some a.block):Own B (w.setCell a u) R:=⟨fun k=>owns_set (h.row k) _ _ (hne k),h.ne⟩
theorem Own.otherT {B:Nat} {w:World} {R:Nat × Nat × Nat→RowS} (h:Own B w R) {b:Nat} {cs:Array Value} {T:TypeId} {fr:Nat × Nat} (hb:w.heap[b]? =some (.cells cs T fr)) (hT:∀k,(R k).e≠T) (i:Nat) (u:Value):Own B (w.setCell ⟨b,i,none⟩ u) R:=
 h.other _ _ fun k=>owns_neObj (h.row k) hb (hT k)
theorem Own.low {B:Nat} {w:World} {R:Nat × Nat × Nat→RowS} (h:Own B w R) (a:Addr) (ha:a.block < B) (u:Value):Own B (w.setCell a u) R:=
 h.other _ _ fun k e=>by have:=((h.row k).lt _ e).1;omega
def intsV (l:List Int):List Value:=l.map (.int .i64)
def sl (o:Option Addr) (n c:Nat):Value:= .slice o n c
def IsInts (r:RowS) (l:List Int):Prop:=∃o c,r= ⟨2,1,.slice o l.length c,l.length,intsV l⟩
def IsMsgs (R:Nat × Nat × Nat→RowS) (i:Nat) (q:List (List Int)):Prop:=∃o c xs,R (kQ i)= ⟨75,1,.slice o q.length c,q.length,xs⟩∧∀j (hj:j < q.length),xs[j]? =some (R (kM i j)).v∧IsInts (R (kM i j)) q[j]
def IsChans (R:Nat × Nat × Nat→RowS) (o:Option Addr) (c:Nat) (l:List ChanD):Prop:=∃xs,R kC= ⟨61,2,.slice o l.length c,l.length,xs⟩∧∀i (hi:i < l.length),xs[i*2]? =some (.int .i64 l[i].shape)∧xs[i*2+1]? =some (R (kQ i)).v∧IsMsgs R i l[i].queue
def IsProcs (R:Nat × Nat × Nat→RowS) (o:Option Addr) (c:Nat) (l:List ProcessD):Prop:=∃xs,R kP= ⟨63,4,.slice o l.length c,l.length,xs⟩∧∀i (hi:i < l.length),xs[i*4]? =some (.int .i64 l[i].type)∧xs[i*4+1]? =some (.int .i64 l[i].loc)∧xs[i*4+2]? =some (.int .i64 l[i].prio)∧xs[i*4+3]? =some (R (kF i)).v∧IsInts (R (kF i)) l[i].frame
structure Spl (R:Nat × Nat × Nat→RowS) (h:SH) (s:StateD):Prop where
 g:R kG= ⟨2,1,.slice h.go s.globals.length h.gc,s.globals.length,intsV s.globals⟩
 c:IsChans R h.co h.cc s.chans
 p:IsProcs R h.po h.pc s.procs
structure Lens (s:StateD):Prop where
 g:s.globals.length≤140737488355328
 c:s.chans.length≤140737488355328
 p:s.procs.length≤140737488355328
 q:∀x ∈ s.chans,x.queue.length≤140737488355328∧∀y ∈ x.queue,y.length≤140737488355328
 f:∀x ∈ s.procs,x.frame.length≤140737488355328
theorem Row.lenW {α:Type} {B:Nat} {o:Option Addr} {k:Nat} {R:Nat→Nat→α→Prop} {l:List α} (h:Row B o k R l):l.length≤140737488355328:=h.1
theorem SD.lens {B:Nat} {w:World} {h:SH} {s:StateD} (d:SD B w h s):Lens s:=by
 refine ⟨d.globals.1,d.chans.1,d.procs.1,fun x hx=> ?_,fun x hx=> ?_⟩
 · obtain ⟨i,hi⟩:=List.mem_iff_getElem?.1 hx;obtain ⟨g,off,-,-,hc⟩:=d.chans.get hi;obtain ⟨o,c,-,hr⟩:=hc.queue;refine ⟨hr.1,fun y hy=> ?_⟩;obtain ⟨j,hj⟩:=List.mem_iff_getElem?.1 hy;obtain ⟨g2,off2,-,-,o2,c2,-,hr2⟩:=hr.get hj;exact hr2.1
 · obtain ⟨i,hi⟩:=List.mem_iff_getElem?.1 hx;obtain ⟨g,off,-,-,hc⟩:=d.procs.get hi;obtain ⟨o,c,-,hr⟩:=hc.frame;exact hr.1
theorem owns_row {w:World} {B size n:Nat} {e:TypeId} {o:Option Addr} {c:Nat} {xs:List Value} (h:w.ownsRow B e size (.slice o n c) n xs):n=0∨∃g,o=some ⟨g,0,none⟩∧B≤g∧g < w.heap.size∧∀j,j < n*size→w.cell? ⟨g,j,none⟩=xs[j]? :=by
 rcases Joins.ownsRow_forms h with ⟨-,h2⟩ | ⟨g,cap,hv⟩
 · exact .inl h2
 · injection hv with e1 e2 e3
   subst e1 e3;obtain ⟨h3,h4⟩:=h.lt g rfl;exact .inr ⟨g,rfl,h3,h4,fun j hj=>h.cellAt j hj⟩
theorem IsInts.row {w:World} {B:Nat} {r:RowS} {l:List Int} (h:IsInts r l) (hl:l.length≤140737488355328) (ho:w.ownsRow B r.e r.size r.v r.n r.xs):∃o c,r.v= .slice o l.length c∧Row w.heap.size o 1 (intAt w) l:=by
 obtain ⟨o,c,rfl⟩:=h;dsimp only at ho;refine ⟨o,c,rfl,hl, ?_⟩;rcases owns_row ho with h0 | ⟨g,rfl,-,hg,hc⟩
 · exact .inl h0
 · refine .inr ⟨g,0,rfl,hg,fun i hi=> ?_⟩;have:=hc i (by omega);unfold intAt;rw [show 0+i*1=i from by omega,this];simp [intsV,hi]
theorem Spl.sd {B:Nat} {w:World} {R:Nat × Nat × Nat→RowS} {h:SH} {s:StateD} (hs:Spl R h s) (ho:Own B w R) (hl:Lens s):SD w.heap.size w h s:=by
 refine ⟨?_, ?_, ?_⟩
 · obtain ⟨o,c,h1,h2⟩:=IsInts.row (w:=w) ⟨_,_,hs.g⟩ hl.g (ho.row kG);rw [hs.g] at h1;injection h1 with e1 _ _
   rw [e1];exact h2
 · obtain ⟨xs,hx,hi⟩:=hs.c;have hr:=ho.row kC;rw [hx] at hr;dsimp only at hr;refine ⟨hl.c, ?_⟩;rcases owns_row hr with h0 | ⟨g,e,-,hg,hc⟩
   · exact .inl h0
   · refine .inr ⟨g,0,e,hg,fun i hi'=> ?_⟩;obtain ⟨x0,x1,o,c,ys,hq,hm⟩:=hi i hi';have hlq:=hl.q s.chans[i] (List.getElem_mem hi');refine ⟨?_,o,c, ?_,hlq.1, ?_⟩
     · rw [←x0,←hc (i*2) (by omega)];congr 2;omega
     · rw [hq] at x1;rw [←x1,←hc (i*2+1) (by omega)];congr 2;omega
     · have hr2:=ho.row (kQ i);rw [hq] at hr2;dsimp only at hr2;rcases owns_row hr2 with h0 | ⟨g2,e2,-,hg2,hc2⟩
       · exact .inl h0
       · refine .inr ⟨g2,0,e2,hg2,fun j hj=> ?_⟩;obtain ⟨y0,y1⟩:=hm j hj;obtain ⟨o3,c3,h3,h4⟩:=y1.row (hlq.2 _ (List.getElem_mem hj)) (ho.row (kM i j));refine ⟨o3,c3, ?_,h4⟩;rw [←h3,←y0,←hc2 j (by omega)];congr 2;omega
 · obtain ⟨xs,hx,hi⟩:=hs.p;have hr:=ho.row kP;rw [hx] at hr;dsimp only at hr;refine ⟨hl.p, ?_⟩;rcases owns_row hr with h0 | ⟨g,e,-,hg,hc⟩
   · exact .inl h0
   · refine .inr ⟨g,0,e,hg,fun i hi'=> ?_⟩;obtain ⟨x0,x1,x2,x3,x4⟩:=hi i hi';obtain ⟨o3,c3,h3,h4⟩:=x4.row (hl.f _ (List.getElem_mem hi')) (ho.row (kF i));rw [h3] at x3;refine ⟨?_, ?_, ?_,o3,c3, ?_,h4⟩
     · rw [←x0,←hc (i*4) (by omega)];congr 2;omega
     · rw [←x1,←hc (i*4+1) (by omega)];congr 2;omega
     · rw [←x2,←hc (i*4+2) (by omega)];congr 2;omega
     · rw [←x3,←hc (i*4+3) (by omega)];congr 2;omega
def SO (B:Nat) (w:World) (h:SH) (s:StateD):Prop:=∃R,Own B w R∧Spl R h s
theorem SO.below {B:Nat} {w w':World} {h:SH} {s:StateD} (o:SO B w h s) (hb:Below w.heap.size w w'):SO B w' h s:=by
 obtain ⟨R,h1,h2⟩:=o;exact ⟨R,h1.below hb,h2⟩
theorem SO.sd {B:Nat} {w:World} {h:SH} {s:StateD} (o:SO B w h s) (hl:Lens s):SD w.heap.size w h s:=by
 obtain ⟨R,h1,h2⟩:=o;exact h2.sd h1 hl
end Go.Proofs.YtnoibjahliafpaaDoor
namespace Go.Proofs.YtnoibjahliafpaaDoor
open Go.ChangeShapes Go.WideShapes Go.ChangeAt Go.RowKit
def SrcRow (w:World) (o:Option Addr) (n:Nat) (xs:List Value):Prop:=n=0∨∃g off,o=some ⟨g,off,none⟩∧g < w.heap.size∧∀ (j:Nat) (u:Value),xs[j]? =some u→w.cell? ⟨g,off+j,none⟩=some u
theorem SrcRow.below {w w':World} {o:Option Addr} {n:Nat} {xs:List Value} (h:SrcRow w o n xs) (hb:Below w.heap.size w w'):SrcRow w' o n xs:=
 h.imp id fun ⟨g,off,e,hg,hi⟩=>⟨g,off,e,Nat.lt_of_lt_of_le hg hb.size,fun j u hj=>(hb.cell hg).trans (hi j u hj)⟩
def CloneP (w:World) (e:TypeId) (size n:Nat) (xs:List Value) (r:Ending) (w':World):Prop:=∃o c,r= .returned (.slice o n c)∧w'.ownsRow w.heap.size e size (.slice o n c) n xs∧Below w.heap.size w w'
theorem owns_head {w:World} {B n size:Nat} {e:TypeId} {v:Value} {xs:List Value} (h:w.ownsRow B e size v n xs):∃o c,v= .slice o n c:=by
 rcases Joins.ownsRow_forms h with ⟨rfl,rfl⟩ | ⟨g,c,rfl⟩
 · exact ⟨none,0,rfl⟩
 · exact ⟨_,c,rfl⟩
theorem info_ints: (Tryd.prog.info? 2).map (fun i=>(i.zero,i.size,i.bytes))=some (some (.int .i64 0),1,8):=by kernel_rfl
set_option maxHeartbeats 2000000 in
set_option maxRecDepth 100000 in
theorem clone_ints (o:Option Addr) (n c:Nat) (xs:List Value) (w:World) (hxs:xs.length=n*1) (hone:∀u ∈ xs,u.oneCell'=true) (h:SrcRow w o n xs) (hbig:n*8≤140737488355328):
 Calls Tryd.prog 19 #[.slice o n c] w (CloneP w 2 1 n xs):=by
 have qn:∀ (w:World) (a:Option Addr) (n c n' c':Nat),(binOp .eql 23 (.slice a n c) (.slice none n' c')).run Tryd.prog w= .ok (.bool a.isNone) w:=fun w a n c n' c'=>Lib.run_eql_slice_nil w _ _ a n c n' c' Tryd.underlying23
 obtain ⟨ie,hi,hz0,hsz,hby⟩:=info_parts info_ints;have HI:=Lib.hid (And.intro hi (And.intro hz0 (And.intro hsz hby)));have HS:=Lib.hid h;have HONE:=Lib.hid hone;have HXS:=Lib.hid hxs;clear hi hz0 hsz hby h hone hxs;cases o with
 | none=>
   have HQ:Hid (n=0):=Lib.hid (by
    rcases HS.out with h | ⟨_,_,h,_⟩
    · exact h
    · cases h)
   go_enter Tryd.func19,Tryd.ntmps19;go_wp2_with fail;go_ret;refine ⟨none,0,by rw [HQ.out];rfl, ?_,Below.refl _ _⟩;have hx0:xs= []:=List.eq_nil_of_length_eq_zero (by rw [HXS.out,HQ.out,Nat.zero_mul]);rw [HQ.out,hx0];exact World.ownsRow_nil _ _ _ _
 | some a=>
   go_enter Tryd.func19,Tryd.ntmps19;go_wp2_with (at_builtin;refine wpList_append_own _ rfl _ _ 23 rfl w.heap.size 2 ie (.int .i64 0) 1 8 Tryd.underlying23 HI.out.1 HI.out.2.1 HI.out.2.2.1 HI.out.2.2.2 rfl (by decide) _ _ _ rfl (World.ownsRow_made w #[] 0 (Nat.le_refl _) (Nat.zero_le _) (by simp)) a n c xs rfl ?qc1 ?qc2 ?qc3 ?qc4 ?qc5 ?qc6 ?_);case qc1=>exact HXS.out
   case qc2=>
    intro j u hj;rcases HS.out with h | ⟨g,off,e,hg,hI⟩
    · have hx0:xs= []:=List.eq_nil_of_length_eq_zero (by rw [HXS.out,h,Nat.zero_mul]);rw [hx0] at hj;simp at hj
    · cases e;rw [Addr.add_lit];exact Lib.cell?_alloc_some _ (hI j u hj)
   case qc3=>exact HONE.out
   case qc4=>unfold maxLen;omega
   case qc5=>omega
   case qc6=>simp
   intro v' w1 hown hgrow hnil;have HO:=Lib.hid hown;have HG:=Lib.hid hgrow;clear hown hgrow hnil;go_wp2_with fail;go_ret;have ho:=HO.out
   try simp only [Nat.zero_add,List.nil_append] at ho
   obtain ⟨o',c',rfl⟩:=owns_head ho;exact ⟨o',c',rfl,ho,((Below.refl _ w).alloc (Nat.le_refl _) _).grown HG.out (by simp) (by intro k hk;simp [Value.ownBlock] at hk;omega)⟩
theorem info_chans: (Tryd.prog.info? 61).map (fun i=>(i.zero,i.size,i.bytes))=some (some (.agg #[.int .i64 0,.slice none 0 0]),2,32):=by kernel_rfl
theorem info_queue: (Tryd.prog.info? 75).map (fun i=>(i.zero,i.size,i.bytes))=some (some (.slice none 0 0),1,24):=by kernel_rfl
theorem info_msg: (Tryd.prog.info? 2).map (fun i=>(i.zero,i.size,i.bytes))=some (some (.int .i64 0),1,8):=by kernel_rfl
theorem info_procs: (Tryd.prog.info? 63).map (fun i=>(i.zero,i.size,i.bytes))=some (some (.agg #[.int .i64 0,.int .i64 0,.int .i64 0,.slice none 0 0]),4,48):=by kernel_rfl
end Go.Proofs.YtnoibjahliafpaaDoor
namespace Go.Proofs.YtnoibjahliafpaaDoor
open Go.ChangeShapes Go.WideShapes Go.ChangeAt Go.RowKit
theorem flat_of {w:World} {g off N:Nat} (h:∀j,j < N→∃u,w.cell? ⟨g,off+j,none⟩=some u∧u.oneCell'=true):
 ∃X:List Value,X.length=N∧ (∀u ∈ X,u.oneCell'=true)∧ (∀ (j:Nat) (u:Value),X[j]? =some u→w.cell? ⟨g,off+j,none⟩=some u)∧∀j,j < N→X[j]? =w.cell? ⟨g,off+j,none⟩:=by
 have key:∀j,j < N→ ((List.range N).map (fun j=>(w.cell? ⟨g,off+j,none⟩).getD (.bool false)))[j]? =w.cell? ⟨g,off+j,none⟩:=fun j hj=>by
  obtain ⟨u,hu,-⟩:=h j hj;rw [List.getElem?_map,List.getElem?_range hj];simp [hu]
 refine ⟨(List.range N).map (fun j=>(w.cell? ⟨g,off+j,none⟩).getD (.bool false)),by simp,fun u hu=> ?_,fun j u hj=> ?_,key⟩
 · obtain ⟨j,hj,rfl⟩:=List.mem_map.1 hu;obtain ⟨v,hv,hv2⟩:=h j (List.mem_range.1 hj);rw [hv];exact hv2
 · have hjN:j < N:=by
    have:=(List.getElem?_eq_some_iff.1 hj).1;simpa using this
   rw [←key j hjN];exact hj
theorem src_ints {B:Nat} {w:World} {o:Option Addr} {l:List Int} (h:Row B o 1 (intAt w) l) (hB:B≤w.heap.size):SrcRow w o l.length (intsV l):=by
 rcases h.2 with h0 | ⟨g,off,rfl,hg,hi⟩
 · exact .inl h0
 · refine .inr ⟨g,off,rfl,by omega,fun j u hj=> ?_⟩;have hjl:j < l.length:=by
    have:=(List.getElem?_eq_some_iff.1 hj).1;simpa [intsV] using this
   have h2:=hi j hjl;unfold intAt at h2;rw [show off+j*1=off+j from by omega] at h2;rw [h2];simpa [intsV,hjl] using hj
theorem ints_one (l:List Int):∀u ∈ intsV l,u.oneCell'=true:=fun u hu=>by
 obtain ⟨x,-,rfl⟩:=List.mem_map.1 hu;rfl
theorem ints_len (l:List Int): (intsV l).length=l.length*1:=by simp [intsV]
theorem src_heads {B:Nat} {w:World} {o:Option Addr} {q:List (List Int)} (h:Row B o 1 (msgAt B w) q) (hB:B≤w.heap.size):
 ∃Y:List Value,Y.length=q.length*1∧ (∀u ∈ Y,u.oneCell'=true)∧SrcRow w o q.length Y∧∀j (hj:j < q.length),∃o c,Y[j]? =some (.slice o q[j].length c)∧Row B o 1 (intAt w) q[j]:=by
 rcases h.2 with h0 | ⟨g,off,rfl,hg,hi⟩
 · exact ⟨[],by simp [h0],by simp,.inl h0,fun j hj=>by omega⟩
 · have hc:∀j,j < q.length→∃u,w.cell? ⟨g,off+j,none⟩=some u∧u.oneCell'=true:=fun j hj=>by
    obtain ⟨o,c,h2,-⟩:=hi j hj;rw [show off+j*1=off+j from by omega] at h2;exact ⟨_,h2,rfl⟩
   obtain ⟨X,h1,h2,h3,h4⟩:=flat_of hc;refine ⟨X,by omega,h2,.inr ⟨g,off,rfl,by omega,h3⟩,fun j hj=> ?_⟩;obtain ⟨o,c,h5,h6⟩:=hi j hj;rw [show off+j*1=off+j from by omega] at h5;exact ⟨o,c,(h4 j hj).trans h5,h6⟩
theorem src_chans {B:Nat} {w:World} {o:Option Addr} {l:List ChanD} (h:Row B o 2 (chanAt B w) l) (hB:B≤w.heap.size):
 ∃X:List Value,X.length=l.length*2∧ (∀u ∈ X,u.oneCell'=true)∧SrcRow w o l.length X∧∀i (hi:i < l.length),X[i*2]? =some (.int .i64 l[i].shape)∧∃o c,X[i*2+1]? =some (.slice o l[i].queue.length c)∧Row B o 1 (msgAt B w) l[i].queue:=by
 rcases h.2 with h0 | ⟨g,off,rfl,hg,hi⟩
 · exact ⟨[],by simp [h0],by simp,.inl h0,fun j hj=>by omega⟩
 · have hc:∀j,j < l.length*2→∃u,w.cell? ⟨g,off+j,none⟩=some u∧u.oneCell'=true:=fun j hj=>by
    have hx:=hi (j / 2) (by omega);by_cases he:j % 2=0
    · have:=hx.c0;rw [show off+j / 2*2=off+j from by omega] at this;exact ⟨_,this,rfl⟩
    · obtain ⟨o,c,h2,-⟩:=hx.queue;rw [show off+j / 2*2+1=off+j from by omega] at h2;exact ⟨_,h2,rfl⟩
   obtain ⟨X,h1,h2,h3,h4⟩:=flat_of hc;refine ⟨X,h1,h2,.inr ⟨g,off,rfl,by omega,h3⟩,fun i hi'=> ?_⟩;have hx:=hi i hi';obtain ⟨o,c,h5,h6⟩:=hx.queue;exact ⟨(h4 _ (by omega)).trans hx.c0,o,c,(h4 _ (by omega)).trans h5,h6⟩
theorem src_procs {B:Nat} {w:World} {o:Option Addr} {l:List ProcessD} (h:Row B o 4 (processAt B w) l) (hB:B≤w.heap.size):
 ∃X:List Value,X.length=l.length*4∧ (∀u ∈ X,u.oneCell'=true)∧SrcRow w o l.length X∧∀i (hi:i < l.length),X[i*4]? =some (.int .i64 l[i].type)∧X[i*4+1]? =some (.int .i64 l[i].loc)∧X[i*4+2]? =some (.int .i64 l[i].prio)∧∃o c,X[i*4+3]? =some (.slice o l[i].frame.length c)∧Row B o 1 (intAt w) l[i].frame:=by
 rcases h.2 with h0 | ⟨g,off,rfl,hg,hi⟩
 · exact ⟨[],by simp [h0],by simp,.inl h0,fun j hj=>by omega⟩
 · have hc:∀j,j < l.length*4→∃u,w.cell? ⟨g,off+j,none⟩=some u∧u.oneCell'=true:=fun j hj=>by
    have hx:=hi (j / 4) (by omega);by_cases h0:j % 4=0
    · have:=hx.c0;rw [show off+j / 4*4=off+j from by omega] at this;exact ⟨_,this,rfl⟩
    by_cases h1:j % 4=1
    · have:=hx.c1;rw [show off+j / 4*4+1=off+j from by omega] at this;exact ⟨_,this,rfl⟩
    by_cases h2:j % 4=2
    · have:=hx.c2;rw [show off+j / 4*4+2=off+j from by omega] at this;exact ⟨_,this,rfl⟩
    · obtain ⟨o,c,h2,-⟩:=hx.frame;rw [show off+j / 4*4+3=off+j from by omega] at h2;exact ⟨_,h2,rfl⟩
   obtain ⟨X,h1,h2,h3,h4⟩:=flat_of hc;refine ⟨X,h1,h2,.inr ⟨g,off,rfl,by omega,h3⟩,fun i hi'=> ?_⟩;have hx:=hi i hi';obtain ⟨o,c,h5,h6⟩:=hx.frame;exact ⟨(h4 _ (by omega)).trans hx.c0,(h4 _ (by omega)).trans hx.c1,(h4 _ (by omega)).trans hx.c2,o,c,(h4 _ (by omega)).trans h5,h6⟩
structure Cp (w0:World) (s:StateD) (gv cv pv:Value) (R:Nat × Nat × Nat→RowS) (W:World):Prop where
 own:Own w0.heap.size W R
 ty:∀k,(R k).e≠33
 box:W.heap[w0.heap.size]? =some (.cells #[gv,cv,pv,.int .i64 s.last,.int .i64 s.alone,.int .i64 s.claim] 33 (0,0))
 res:W.heap[w0.heap.size+1]? =some (.cells #[.slice none 0 0,.slice none 0 0,.slice none 0 0,.int .i64 0,.int .i64 0,.int .i64 0] 33 (0,0))
 bel:Below w0.heap.size w0 W
theorem upd_ty {R:Nat × Nat × Nat→RowS} {k:Nat × Nat × Nat} {r:RowS} {T:TypeId} (h:∀k,(R k).e≠T) (hr:r.e≠T):∀q,(upd R k r q).e≠T:=fun q=>by
 unfold upd;split
 · exact hr
 · exact h q
section
variable {w0 W W1:World} {s:StateD} {gv cv pv:Value} {R:Nat × Nat × Nat→RowS}
theorem Cp.drew (h:Cp w0 s gv cv pv R W):Cp w0 s gv cv pv R W.drew:=⟨⟨fun k=>(h.own.row k).drew,h.own.ne⟩,h.ty,h.box,h.res,h.bel.drew⟩
theorem Cp.head (h:Cp w0 s gv cv pv R W) (hb:Below W.heap.size W W1) (k:Nat × Nat × Nat) (r:RowS) (hr:W1.ownsRow W.heap.size r.e r.size r.v r.n r.xs) (hrT:r.e≠33) (i:Nat) {gv' cv' pv':Value} (hc: (#[gv,cv,pv,Value.int .i64 s.last,.int .i64 s.alone,.int .i64 s.claim]:Array Value).setIfInBounds i r.v= #[gv',cv',pv',Value.int .i64 s.last,.int .i64 s.alone,.int .i64 s.claim]):
 Cp w0 s gv' cv' pv' (upd R k r) (W1.setCell ⟨w0.heap.size,i,none⟩ r.v):=by
 have hbox:W1.heap[w0.heap.size]? =_:=(hb.block _ (lt_of_block h.box)).trans h.box;have hres:W1.heap[w0.heap.size+1]? =_:=(hb.block _ (lt_of_block h.res)).trans h.res;have ho:=h.own.put h.bel.size hb k r hr;refine ⟨ho.otherT hbox (upd_ty h.ty hrT) _ _,upd_ty h.ty hrT, ?_, ?_,(h.bel.trans (hb.mono h.bel.size)).setCell (Nat.le_refl _) _⟩
 · rw [heap_setCell_same _ _ _ _ _ _ hbox,hc]
 · rw [heap_setCell_other _ _ _ _ (by exact fun e=>by simp at e)];exact hres
theorem Cp.cell (h:Cp w0 s gv cv pv R W) (hb:Below W.heap.size W W1) (k:Nat × Nat × Nat) (r:RowS) (hr:W1.ownsRow W.heap.size r.e r.size r.v r.n r.xs) (hrT:r.e≠33) {k2:Nat × Nat × Nat} (hk:k2≠k) {g n c:Nat} (hv: (R k2).v= .slice (some ⟨g,0,none⟩) n c) (hn: (R k2).n=n) (j:Nat) (u:Value):
 Cp w0 s gv cv pv (upd (upd R k r) k2 ⟨(R k2).e,(R k2).size,(R k2).v,(R k2).n,(R k2).xs.set j u⟩) (W1.setCell ⟨g,j,none⟩ u):=by
 have hbox:W1.heap[w0.heap.size]? =_:=(hb.block _ (lt_of_block h.box)).trans h.box;have hres:W1.heap[w0.heap.size+1]? =_:=(hb.block _ (lt_of_block h.res)).trans h.res;have ho:=h.own.put h.bel.size hb k r hr;have e2:upd R k r k2=R k2:=upd_ne R r hk;have ho2:=ho.set k2 (g:=g) (n:=n) (c:=c) (by rw [e2];exact hv) (by rw [e2];exact hn) j u;rw [e2] at ho2;have hg:=(h.own.row k2).lt g (by rw [hv];rfl);have hne1:g≠w0.heap.size:=fun e=>owns_neObj (h.own.row k2) h.box (h.ty k2) (by rw [hv,←e];rfl)
 have hne2:g≠w0.heap.size+1:=fun e=>owns_neObj (h.own.row k2) h.res (h.ty k2) (by rw [hv,←e];rfl)
 refine ⟨ho2,upd_ty (upd_ty h.ty hrT) (h.ty k2), ?_, ?_,(h.bel.trans (hb.mono h.bel.size)).setCell hg.1 _⟩
 · rw [heap_setCell_other _ _ _ _ (by exact fun e=>hne1 e.symm)];exact hbox
 · rw [heap_setCell_other _ _ _ _ (by exact fun e=>hne2 e.symm)];exact hres
end
def ChOk (R:Nat × Nat × Nat→RowS) (xs:List Value) (i:Nat) (c:ChanD):Prop:=xs[i*2]? =some (.int .i64 c.shape)∧xs[i*2+1]? =some (R (kQ i)).v∧IsMsgs R i c.queue
def PrOk (R:Nat × Nat × Nat→RowS) (xs:List Value) (i:Nat) (p:ProcessD):Prop:=xs[i*4]? =some (.int .i64 p.type)∧xs[i*4+1]? =some (.int .i64 p.loc)∧xs[i*4+2]? =some (.int .i64 p.prio)∧xs[i*4+3]? =some (R (kF i)).v∧IsInts (R (kF i)) p.frame
theorem k_ne {a b c a' b' c':Nat} (h:a≠a'∨b≠b'∨c≠c'): (a,b,c)≠ (a',b',c'):=by
 intro e;injection e with e1 e2
 injection e2 with e2 e3
 omega
def Agree (R R':Nat × Nat × Nat→RowS) (P:Nat × Nat × Nat→Prop):Prop:=∀k,P k→R' k=R k
theorem ChOk.of {R R':Nat × Nat × Nat→RowS} {xs xs':List Value} {i:Nat} {c:ChanD} (h:ChOk R xs i c) (hq:R' (kQ i)=R (kQ i)) (hm:∀j,R' (kM i j)=R (kM i j)) (h0:xs'[i*2]? =xs[i*2]?) (h1:xs'[i*2+1]? =xs[i*2+1]?):ChOk R' xs' i c:=by
 obtain ⟨a,b,o,k,ys,h2,h3⟩:=h;exact ⟨h0.trans a,by rw [h1,hq];exact b,o,k,ys,hq.trans h2,fun j hj=>by rw [hm];exact h3 j hj⟩
theorem PrOk.of {R R':Nat × Nat × Nat→RowS} {xs xs':List Value} {i:Nat} {p:ProcessD} (h:PrOk R xs i p) (hf:R' (kF i)=R (kF i)) (h0:xs'[i*4]? =xs[i*4]?) (h1:xs'[i*4+1]? =xs[i*4+1]?) (h2:xs'[i*4+2]? =xs[i*4+2]?) (h3:xs'[i*4+3]? =xs[i*4+3]?):PrOk R' xs' i p:=by
 obtain ⟨a,b,c,d,e⟩:=h;exact ⟨h0.trans a,h1.trans b,h2.trans c,by rw [h3,hf];exact d,by rw [hf];exact e⟩
end Go.Proofs.YtnoibjahliafpaaDoor
