/- A model's first state: how it stands while it is built. -/
import Derived.Test.YtnoibjahliafpaaDoorM24
import Derived.Test.YtnoibjahliafpaaDoorM23
import Derived.Test.YtnoibjahliafpaaDoorM03
set_option linter.unusedVariables false
set_option linter.unusedSimpArgs false
namespace Go.Proofs.YtnoibjahliafpaaDoor
open Go.ChangeShapes Go.WideShapes Go.ChangeAt Go.RowKit
def firstR (k:Nat × Nat × Nat):RowS:=if k.1=0 then ⟨2,1,.slice none 0 0,0,[]⟩ else if k.1=1 then ⟨61,2,.slice none 0 0,0,[]⟩ else if k.1=2 then ⟨63,4,.slice none 0 0,0,[]⟩ else if k.1=3 then ⟨75,1,.slice none 0 0,0,[]⟩ else rowNil
theorem firstR_nil (k:Nat × Nat × Nat): (firstR k).v= .slice none 0 0∧ (firstR k).n=0∧ (firstR k).xs= []∧ (firstR k).e≠33:=by
 unfold firstR rowNil;split
 · simp
 · split
   · simp
   · split
     · simp
     · split <;> simp
theorem firstR_own (B:Nat) (w:World):Own B w firstR:=by
 refine ⟨fun k=> ?_,fun k k' _ g hg=> ?_⟩
 · obtain ⟨h1,h2,h3,-⟩:=firstR_nil k;rw [h1,h2,h3];exact World.ownsRow_nil _ _ _ _
 · rw [(firstR_nil k).1] at hg;cases hg
structure FX (w0:World) (sb:Nat) (CM:Array Value) (R:Nat × Nat × Nat→RowS) (nv:Array Value) (W:World):Prop where
 own:Own (w0.heap.size+2) W R
 ty:∀k,(R k).e≠33
 box:W.heap[w0.heap.size]? =some (.cells CM 29 (0,0))
 res:W.heap[w0.heap.size+1]? =some (.cells #[.slice none 0 0,.slice none 0 0,.slice none 0 0,.int .i64 0,.int .i64 0,.int .i64 0] 33 (0,0))
 nb:W.heap[sb]? =some (.cells nv 33 (0,0))
 ge:w0.heap.size+2≤sb
 bel:Below w0.heap.size w0 W
structure FO (w0:World) (sb:Nat) (CM:Array Value) (s:StateD) (i:Nat) (R:Nat × Nat × Nat→RowS) (go:Option Addr) (gc:Nat) (co:Option Addr) (cc:Nat) (xs:List Value) (W:World):Prop where
 c:FX w0 sb CM R #[.slice go s.globals.length gc,.slice co i cc,.slice none 0 0,.int .i64 s.last,.int .i64 s.alone,.int .i64 (-1)] W
 hg:R kG= ⟨2,1,.slice go s.globals.length gc,s.globals.length,intsV s.globals⟩
 hc:R kC= ⟨61,2,.slice co i cc,i,xs⟩
 hp:R kP= ⟨63,4,.slice none 0 0,0,[]⟩
 ok:∀j (hj:j < s.chans.length),j < i→ChOk R xs j s.chans[j]
 nq:∀j,i≤j→R (kQ j)= ⟨75,1,.slice none 0 0,0,[]⟩
structure FP (w0:World) (sb:Nat) (CM:Array Value) (s:StateD) (j:Nat) (R:Nat × Nat × Nat→RowS) (go:Option Addr) (gc:Nat) (co:Option Addr) (cc:Nat) (xs:List Value) (po:Option Addr) (pc:Nat) (ps:List Value) (W:World):Prop where
 c:FX w0 sb CM R #[.slice go s.globals.length gc,.slice co s.chans.length cc,.slice po j pc,.int .i64 s.last,.int .i64 s.alone,.int .i64 (-1)] W
 hg:R kG= ⟨2,1,.slice go s.globals.length gc,s.globals.length,intsV s.globals⟩
 hc:R kC= ⟨61,2,.slice co s.chans.length cc,s.chans.length,xs⟩
 hp:R kP= ⟨63,4,.slice po j pc,j,ps⟩
 ok:∀i (hi:i < s.chans.length),ChOk R xs i s.chans[i]
 pk:∀m (hm:m < s.procs.length),m < j→PrOk R ps m s.procs[m]
section
variable {w0 W W1 W2 W3:World} {sb:Nat} {CM nv:Array Value} {s:StateD} {i j:Nat} {R:Nat × Nat × Nat→RowS} {go co po:Option Addr} {gc cc pc:Nat} {xs ps:List Value} {o:Obj}
theorem FX.le (h:FX w0 sb CM R nv W):w0.heap.size+2≤W.heap.size:=by have:=lt_of_block h.nb;have:=h.ge;omega
theorem FX.below (h:FX w0 sb CM R nv W) (hb:Below W.heap.size W W1):FX w0 sb CM R nv W1:=
 ⟨h.own.below hb,h.ty,(hb.block _ (lt_of_block h.box)).trans h.box,(hb.block _ (lt_of_block h.res)).trans h.res,(hb.block _ (lt_of_block h.nb)).trans h.nb,h.ge,h.bel.trans (hb.mono h.bel.size)⟩
theorem ty_upd (h:∀k,(R k).e≠33) (k:Nat × Nat × Nat) (r:RowS) (h1:r.e≠33):∀q,(upd R k r q).e≠33:=fun q=>by
 by_cases e:q=k
 · rw [e,upd_same];exact h1
 · rw [upd_ne R r e];exact h q
theorem FX.put (h:FX w0 sb CM R nv W) (hb:Below W.heap.size W W1) (k:Nat × Nat × Nat) (r:RowS) (hr:W1.ownsRow W.heap.size r.e r.size r.v r.n r.xs) (h1:r.e≠33):FX w0 sb CM (upd R k r) nv W1:=
 have h':=h.below hb
 ⟨h.own.put h.le hb k r hr,ty_upd h.ty k r h1,h'.box,h'.res,h'.nb,h'.ge,h'.bel⟩
theorem FX.grow (h:FX w0 sb CM R nv W) (k:Nat × Nat × Nat) {e:TypeId} {size:Nat} {v v':Value} {n n':Nat} {xs xs':List Value} (hk:R k= ⟨e,size,v,n,xs⟩) (hg:W.grownBy W1 v.ownBlock) (ho:W1.ownsRow (w0.heap.size+2) e size v' n' xs') (hn:v'.ownBlock=v.ownBlock∨v'.ownBlock=some W.heap.size):FX w0 sb CM (upd R k ⟨e,size,v',n',xs'⟩) nv W1:=by
 have hrk:=h.own.row k;have hty:=h.ty k;have hO:Own (w0.heap.size+2) W1 (upd R k ⟨(R k).e,(R k).size,v',n',xs'⟩):=h.own.grow k (by rw [hk];exact hg) (by rw [hk];exact ho) (by rw [hk];exact hn);rw [hk] at hrk hO hty;dsimp only at hrk hO hty;have hB:Below (w0.heap.size+2) W W1:=(Below.refl _ _).grown hg h.le (fun q hq=>(hrk.lt q hq).1);have hlow:∀b,b < w0.heap.size+2→W1.heap[b]? =W.heap[b]? :=fun b hb=>hB.block b hb
 have hsb:W1.heap[sb]? =W.heap[sb]? :=hg.block sb (lt_of_block h.nb) (fun e=>owns_neObj hrk h.nb hty e.symm);exact ⟨hO,ty_upd h.ty k _ hty,(hlow _ (by omega)).trans h.box,(hlow _ (by omega)).trans h.res,hsb.trans h.nb,h.ge,h.bel.trans (hB.mono (by omega))⟩
theorem FX.nset (h:FX w0 sb CM R nv W) (i:Nat) (v:Value):FX w0 sb CM R (nv.setIfInBounds i v) (W.setCell ⟨sb,i,none⟩ v):=
 have hge:=h.ge
 ⟨h.own.otherT h.nb h.ty i v,h.ty,(heap_setCell_other _ _ _ _ (by show _≠sb;omega)).trans h.box,(heap_setCell_other _ _ _ _ (by show _≠sb;omega)).trans h.res,heap_setCell_same _ _ _ _ _ _ h.nb,h.ge,h.bel.setCell (by show _≤sb;omega) v⟩
theorem FX.len (h:FX w0 sb CM R nv W) {q:Nat × Nat × Nat} {e:TypeId} {size n:Nat} {v:Value} {zs:List Value} (hq:R q= ⟨e,size,v,n,zs⟩):zs.length=n*size:=by
 have h1:=h.own.row q;rw [hq] at h1;exact h1.1
theorem FX.at (h:FX w0 sb CM R nv W) {q:Nat × Nat × Nat} {e:TypeId} {size n:Nat} {v:Value} {zs:List Value} (hq:R q= ⟨e,size,v,n,zs⟩):W.ownsRow (w0.heap.size+2) e size v n zs:=by
 have h1:=h.own.row q;rw [hq] at h1;exact h1
theorem FO.start (h:FX w0 sb CM (upd firstR kG ⟨2,1,.slice go s.globals.length gc,s.globals.length,intsV s.globals⟩) #[.slice go s.globals.length gc,.slice none 0 0,.slice none 0 0,.int .i64 s.last,.int .i64 s.alone,.int .i64 (-1)] W):
 FO w0 sb CM s 0 (upd firstR kG ⟨2,1,.slice go s.globals.length gc,s.globals.length,intsV s.globals⟩) go gc none 0 [] W:=by
 refine ⟨h,upd_same _ _ _, ?_, ?_,fun j _ hj=>absurd hj (by omega),fun j _=> ?_⟩
 · rw [upd_ne _ _ (by simp [kG,kC])];rfl
 · rw [upd_ne _ _ (by simp [kG,kP])];rfl
 · rw [upd_ne _ _ (by simp [kG,kQ])];rfl
theorem FO.next (h:FO w0 sb CM s i R go gc co cc xs W) (hi:i < s.chans.length) (hch:s.chans[i].queue= []) {co':Option Addr} {cc':Nat} (hg2: (W.alloc o).grownBy W2 (Value.slice co i cc).ownBlock)
 (hr2:W2.ownsRow (w0.heap.size+2) 61 2 (.slice co' (i+1) cc') (i+1) (xs ++ [.int .i64 s.chans[i].shape,.slice none 0 0])) (hn2: (Value.slice co' (i+1) cc').ownBlock= (Value.slice co i cc).ownBlock∨ (Value.slice co' (i+1) cc').ownBlock=some (W.alloc o).heap.size):
 ∃R',FO w0 sb CM s (i+1) R' go gc co' cc' (xs ++ [.int .i64 s.chans[i].shape,.slice none 0 0]) (W2.setCell ⟨sb,1,none⟩ (.slice co' (i+1) cc')):=by
 have c2:=(h.c.below (ball o)).grow kC h.hc hg2 hr2 hn2;have hxl:xs.length=i*2:=h.c.len h.hc;refine ⟨_,c2.nset 1 (.slice co' (i+1) cc'), ?_,upd_same _ _ _, ?_,fun j hj hji=> ?_,fun j hj=> ?_⟩
 · rw [upd_ne _ _ (by simp [kG,kC])];exact h.hg
 · rw [upd_ne _ _ (by simp [kP,kC])];exact h.hp
 · by_cases e:j=i
   · subst e;have hq:upd R kC ⟨61,2,.slice co' (j+1) cc',j+1,xs ++ [.int .i64 s.chans[j].shape,.slice none 0 0]⟩ (kQ j)= ⟨75,1,.slice none 0 0,0,[]⟩:=by
      rw [upd_ne _ _ (by simp [kQ,kC])];exact h.nq j (Nat.le_refl _)
     refine ⟨?_, ?_,none,0,[], ?_,fun m hm=> ?_⟩
     · rw [List.getElem?_append_right (by omega),hxl];simp
     · rw [List.getElem?_append_right (by omega),hxl,hq];simp
     · rw [hq,hch];rfl
     · rw [hch] at hm;exact absurd hm (by simp)
   · exact (h.ok j hj (by omega)).of (upd_ne _ _ (by simp [kQ,kC])) (fun m=>upd_ne _ _ (by simp [kM,kC])) (List.getElem?_append_left (by omega)) (List.getElem?_append_left (by omega))
 · rw [upd_ne _ _ (by simp [kQ,kC])];exact h.nq j (by omega)
theorem FP.start (h:FO w0 sb CM s s.chans.length R go gc co cc xs W):FP w0 sb CM s 0 R go gc co cc xs none 0 [] W:=⟨h.c,h.hg,h.hc,h.hp,fun i hi=>h.ok i hi hi,fun m _ hm=>absurd hm (by omega)⟩
theorem FP.step (h:FP w0 sb CM s j R go gc co cc xs po pc ps W) (hj:j < s.procs.length) {fo:Option Addr} {fc:Nat} (hb:Below W.heap.size W W2) (hr:W2.ownsRow W.heap.size 2 1 (.slice fo s.procs[j].frame.length fc) s.procs[j].frame.length (intsV s.procs[j].frame))
 {po':Option Addr} {pc':Nat} (hg3: (W2.alloc o).grownBy W3 (Value.slice po j pc).ownBlock) (hr3:W3.ownsRow (w0.heap.size+2) 63 4 (.slice po' (j+1) pc') (j+1) (ps ++ [.int .i64 s.procs[j].type,.int .i64 s.procs[j].loc,.int .i64 s.procs[j].prio,.slice fo s.procs[j].frame.length fc]))
 (hn3: (Value.slice po' (j+1) pc').ownBlock= (Value.slice po j pc).ownBlock∨ (Value.slice po' (j+1) pc').ownBlock=some (W2.alloc o).heap.size):
 ∃R',FP w0 sb CM s (j+1) R' go gc co cc xs po' pc' (ps ++ [.int .i64 s.procs[j].type,.int .i64 s.procs[j].loc,.int .i64 s.procs[j].prio,.slice fo s.procs[j].frame.length fc]) (W3.setCell ⟨sb,2,none⟩ (.slice po' (j+1) pc')):=by
 have c1:=(h.c.put hb (kF j) ⟨2,1,.slice fo s.procs[j].frame.length fc,s.procs[j].frame.length,intsV s.procs[j].frame⟩ hr (by simp)).below (ball o);have hp1:upd R (kF j) ⟨2,1,.slice fo s.procs[j].frame.length fc,s.procs[j].frame.length,intsV s.procs[j].frame⟩ kP= ⟨63,4,.slice po j pc,j,ps⟩:=by
  rw [upd_ne _ _ (by simp [kP,kF])];exact h.hp
 have c2:=c1.grow kP hp1 hg3 hr3 hn3;have hpl:ps.length=j*4:=h.c.len h.hp;refine ⟨_,c2.nset 2 (.slice po' (j+1) pc'), ?_, ?_,upd_same _ _ _,fun i hi=> ?_,fun m hm hmj=> ?_⟩
 · rw [upd_ne _ _ (by simp [kG,kP]),upd_ne _ _ (by simp [kG,kF])];exact h.hg
 · rw [upd_ne _ _ (by simp [kC,kP]),upd_ne _ _ (by simp [kC,kF])];exact h.hc
 · refine (h.ok i hi).of ?_ (fun m=> ?_) rfl rfl
   · rw [upd_ne _ _ (by simp [kQ,kP]),upd_ne _ _ (by simp [kQ,kF])]
   · rw [upd_ne _ _ (by simp [kM,kP]),upd_ne _ _ (by simp [kM,kF])]
 · by_cases e:m=j
   · subst e;have hf:upd (upd R (kF m) ⟨2,1,.slice fo s.procs[m].frame.length fc,s.procs[m].frame.length,intsV s.procs[m].frame⟩) kP ⟨63,4,.slice po' (m+1) pc',m+1,ps ++ [.int .i64 s.procs[m].type,.int .i64 s.procs[m].loc,.int .i64 s.procs[m].prio,.slice fo s.procs[m].frame.length fc]⟩ (kF m)= ⟨2,1,.slice fo s.procs[m].frame.length fc,s.procs[m].frame.length,intsV s.procs[m].frame⟩:=by
      rw [upd_ne _ _ (by simp [kF,kP]),upd_same]
     refine ⟨?_, ?_, ?_, ?_,by rw [hf];exact ⟨_,_,rfl⟩⟩
     · rw [List.getElem?_append_right (by omega),hpl];simp
     · rw [List.getElem?_append_right (by omega),hpl];simp
     · rw [List.getElem?_append_right (by omega),hpl];simp
     · rw [List.getElem?_append_right (by omega),hpl,hf];simp
   · refine (h.pk m hm (by omega)).of ?_ (List.getElem?_append_left (by omega)) (List.getElem?_append_left (by omega)) (List.getElem?_append_left (by omega)) (List.getElem?_append_left (by omega));rw [upd_ne _ _ (by simp [kF,kP]),upd_ne _ _ (by simp [kF] <;> omega)]
theorem FO.below (h:FO w0 sb CM s i R go gc co cc xs W) (hb:Below W.heap.size W W1):FO w0 sb CM s i R go gc co cc xs W1:=⟨h.c.below hb,h.hg,h.hc,h.hp,h.ok,h.nq⟩
theorem FP.below (h:FP w0 sb CM s j R go gc co cc xs po pc ps W) (hb:Below W.heap.size W W1):FP w0 sb CM s j R go gc co cc xs po pc ps W1:=⟨h.c.below hb,h.hg,h.hc,h.hp,h.ok,h.pk⟩
theorem FP.done (h:FP w0 sb CM s s.procs.length R go gc co cc xs po pc ps W):SO w0.heap.size W ⟨go,gc,co,cc,po,pc⟩ s∧Below w0.heap.size w0 W∧∀k,(R k).v.ownBlock≠some (w0.heap.size+1):=
 ⟨⟨R,h.c.own.mono (by omega),h.hg,⟨xs,h.hc,fun i hi=>h.ok i hi⟩,⟨ps,h.hp,fun m hm=>h.pk m hm hm⟩⟩,h.c.bel,fun k e=>by have:=((h.c.own.row k).lt _ e).1;omega⟩
end
def cntF (m:ModelD) (t:Nat):Nat:=(startsL 0 (m.procs.take t)).length
theorem starts_append:∀ (a b:List ProcD) (t:Nat),startsL t (a ++ b)=startsL t a ++ startsL (t+a.length) b
 | [],b,t=>by simp [startsL]
 | p :: a,b,t=>by
   rw [List.cons_append];simp only [startsL,List.length_cons];rw [starts_append a b (t+1),List.append_assoc,show t+1+a.length=t+ (a.length+1) by omega]
theorem cnt_step {m:ModelD} {t:Nat} {p:ProcD} (hp:m.procs[t]? =some p):cntF m (t+1)=cntF m t+p.active.toNat:=by
 obtain ⟨ht,rfl⟩:=List.getElem?_eq_some_iff.1 hp;unfold cntF;rw [List.take_succ_eq_append_getElem ht,starts_append];simp [startsL,startsOf]
theorem cnt_all (m:ModelD):cntF m m.procs.length= (startsL 0 m.procs).length:=by
 unfold cntF;rw [List.take_length]
theorem start_at {m:ModelD} {t a:Nat} {p:ProcD} (hp:m.procs[t]? =some p) (ha:a < p.active.toNat): (startsL 0 m.procs)[cntF m t+a]? =some (beginD t p (List.replicate p.params.toNat 0)):=by
 obtain ⟨ht,rfl⟩:=List.getElem?_eq_some_iff.1 hp;have h1:m.procs=m.procs.take t ++ (m.procs[t] :: m.procs.drop (t+1)):=by
  rw [←List.drop_eq_getElem_cons ht,List.take_append_drop]
 have h2:startsL 0 m.procs=startsL 0 (m.procs.take t) ++ startsL (0+ (m.procs.take t).length) (m.procs[t] :: m.procs.drop (t+1)):=by
  rw [←starts_append,←h1]
 rw [h2,List.getElem?_append_right (by unfold cntF;omega)];have h3:cntF m t+a - (startsL 0 (m.procs.take t)).length=a:=by unfold cntF;omega
 rw [h3];simp only [startsL];rw [List.getElem?_append_left (by simpa [startsOf] using ha)];have h4:0+ (m.procs.take t).length=t:=by rw [List.length_take];omega
 rw [h4];simp only [startsOf];rw [List.getElem?_replicate,if_pos ha]
end Go.Proofs.YtnoibjahliafpaaDoor
namespace Go.Proofs.YtnoibjahliafpaaDoor
open Go.ChangeShapes Go.WideShapes Go.ChangeAt Go.RowKit
theorem arr_one (W:World) (v:Value) (T:TypeId):∀j u,[v][j]? =some u→ (W.alloc (.cells #[v] T)).cell? ((⟨W.heap.size,0,none⟩:Addr).add j)=some u:=by
 intro j u hj;rw [held.add_off,cell_of_row _ _ _ _ _ _ (heap_alloc_new W _)];simpa using hj
theorem gb_trans {W W1 W2:World} {row:Option Nat} (h1:W.grownBy W1 row) (h2:W1.grownBy W2 row):W.grownBy W2 row:=
 ⟨h2.os.trans h1.os,h2.tape.trans h1.tape,h2.output.trans h1.output,Nat.le_trans h1.size h2.size,fun k hk hne=>(h2.block k (Nat.lt_of_lt_of_le hk h1.size) hne).trans (h1.block k hk hne)⟩
theorem gb_below {W W1:World} {row:Option Nat} (h:Below W.heap.size W W1):W.grownBy W1 row:=⟨h.os,h.tape,h.output,h.size,fun k hk _=>h.block k hk⟩
theorem gb_refl (W:World) (row:Option Nat):W.grownBy W row:=gb_below (Below.refl _ _)
theorem gb_set (W:World) (b i:Nat) (v:Value):W.grownBy (W.setCell ⟨b,i,none⟩ v) (some b):=
 have hb:Below b W (W.setCell ⟨b,i,none⟩ v):=(Below.refl b W).setCell (p:=⟨b,i,none⟩) (Nat.le_refl _) v
 ⟨hb.os,hb.tape,hb.output,hb.size,fun k _ hne=>heap_setCell_other _ _ _ _ (fun e=>hne (by rw [e]))⟩
theorem gb_low {B b:Nat} {W W1:World} (h:W.grownBy W1 (some b)) (hB:B≤b) (hb:b < W.heap.size):Below B W W1:=
 ⟨h.os,h.tape,h.output,h.size,fun k hk=>h.block k (by omega) (by simp;omega)⟩
theorem gb_heap {b k:Nat} {W W1:World} {o:Obj} (h:W.grownBy W1 (some b)) (hk:W.heap[k]? =some o) (hne:k≠b):W1.heap[k]? =some o:=
 (h.block k (Array.getElem?_eq_some_iff.1 hk).1 (by simpa using hne)).trans hk
structure RX (rb mb lb:Nat) (r:RdS) (W:World):Prop where
 blk:∃lo lc,W.heap[rb]? =some (.cells #[.pointer (some ⟨mb,0,none⟩),.slice lo r.left.length lc,.bool r.wrong] 53 (0,0))∧Row lb lo 1 (intAt W) r.left∧r.left.length≤lc
 le:lb≤rb
theorem RX.lt {rb mb lb:Nat} {r:RdS} {W:World} (h:RX rb mb lb r W):rb < W.heap.size:=by
 obtain ⟨lo,lc,hb,-,-⟩:=h.blk;exact lt_of_block hb
theorem RX.below {rb mb lb:Nat} {r:RdS} {W W1:World} (h:RX rb mb lb r W) (hb:Below W.heap.size W W1):RX rb mb lb r W1:=by
 obtain ⟨lo,lc,h1,h2,h3⟩:=h.blk;have hl:=h.lt;exact ⟨⟨lo,lc,(hb.block _ hl).trans h1,h2.mono fun _ _ _ hg=>intAt.below (hb.mono (by have:=h.le;omega)) hg,h3⟩,h.le⟩
theorem RX.other {rb mb lb:Nat} {r:RdS} {W W1:World} {b:Nat} (h:RX rb mb lb r W) (hg:W.grownBy W1 (some b)) (hb:rb < b):RX rb mb lb r W1:=by
 obtain ⟨lo,lc,h1,h2,h3⟩:=h.blk;have hl:=h.lt;refine ⟨⟨lo,lc,gb_heap hg h1 (by omega),h2.mono fun g a x hgl hx=> ?_,h3⟩,h.le⟩;have:=h.le;exact (World.cell?_of_block (hg.block g (by omega) (by simp;omega))).trans hx
def RdP (rb mb lb:Nat) (v:Value) (r:RdS) (W:World) (e:Ending) (W':World):Prop:=e= .returned v∧RX rb mb lb r W'∧W.grownBy W' (some rb)
set_option maxRecDepth 100000 in
set_option maxHeartbeats 1000000 in
theorem nextC {rb mb lb:Nat} {r:RdS} {W:World} (h:RX rb mb lb r W):
 Calls Tryd.prog 38 #[.pointer (some ⟨rb,0,none⟩)] W (RdP rb mb lb (.int .i64 (nxF r).1) (nxF r).2 W):=by
 obtain ⟨lo,lc,hb,hr,hcap⟩:=h.blk;have hle:=h.le;have hlt:=h.lt;obtain ⟨L,wr⟩:=r;simp only at hb hr hcap;have HBX:=Lib.hid hb;have x1:W.cell? ⟨rb,1,none⟩=some (.slice lo L.length lc):=(cell_of_row _ _ 1 _ _ _ hb).trans rfl;have x2:W.cell? ⟨rb,2,none⟩=some (.bool wr):=(cell_of_row _ _ 2 _ _ _ hb).trans rfl;have f1:W.frozen? ⟨rb,1,none⟩=false:=frozen_of_row _ _ _ _ _ hb;have f2:W.frozen? ⟨rb,2,none⟩=false:=frozen_of_row _ _ _ _ _ hb;have HLE:=Lib.hid hle;clear h hle;cases L with
 | nil=>
   have HZ:Hid (RdP rb mb lb (.int .i64 (nxF ⟨[],wr⟩).1) (nxF ⟨[],wr⟩).2 W (.returned (.int .i64 0)) (W.setCell ⟨rb,2,none⟩ (.bool true))):=Lib.hid ⟨rfl,⟨⟨lo,lc,(heap_setCell_same _ _ _ _ _ _ hb).trans rfl,Row.nil _ _ _ _,hcap⟩,HLE.out⟩,gb_set _ _ _ _⟩;have hl0: (([]:List Int).length:Int)=0:=rfl;clear hb hr hcap hlt;go_enter Tryd.func38,Tryd.ntmps38;go_wp2_with fail;go_ret;exact HZ.out
 | cons v t=>
   obtain ⟨g,off,rfl,hg,e1⟩:=hr.cell (i:=0) (by simp);have hrt:=hr.2;unfold intAt at e1;have e1:W.cell? ⟨g,off,none⟩=some (.int .i64 v):=e1;obtain ⟨lo2,hlo2⟩:∃l,l= (if lc=1 then some (⟨g,off,none⟩:Addr) else some ⟨g,off+1,none⟩):=⟨_,rfl⟩;have hsl:∀W:World,(Instr.slice 23 (.slice (some ⟨g,off,none⟩) (t.length+1) lc) (some (.int .i64 1)) none none).run Tryd.prog W= .ok (.slice lo2 t.length (lc - 1)) W:=fun W=>by
    rw [run_slice_l W 23 _ _ _ Tryd.underlying23 .i64 1 (by omega) (by simp;omega)];rw [show (sizeOf (Tryd.prog.elem 23)).run Tryd.prog W= .ok 1 W from Tryd.sizeOf2 W];simp only [Result.andThen_ok,sliced,hlo2];congr 1
   have hrow:Row lb lo2 1 (intAt W) t:=by
    refine ⟨by have:=hr.1;simp at this;omega, ?_⟩;rcases hrt with h0 | ⟨g',off',e,hg',hc⟩
    · simp at h0
    · by_cases ht:t.length=0
      · exact .inl ht
      · right;injection e with e
        injection e with e2 e3
        subst e2 e3;refine ⟨g,off+1,by rw [hlo2,if_neg (by simp at hcap;omega)],hg,fun i hi=> ?_⟩;have:=hc (i+1) (by simp;omega);rw [show off+1+i*1=off+ (i+1)*1 by omega];exact this
   have HZ:Hid (RdP rb mb lb (.int .i64 (nxF ⟨v :: t,wr⟩).1) (nxF ⟨v :: t,wr⟩).2 W (.returned (.int .i64 v)) (W.setCell ⟨rb,1,none⟩ (.slice lo2 t.length (lc - 1)))):=Lib.hid (by
    refine ⟨rfl,⟨⟨lo2,lc - 1,(heap_setCell_same _ _ _ _ _ _ hb).trans rfl,hrow.mono fun g a x hgl hx=> ?_,by simp at hcap;simp [nxF];omega⟩,HLE.out⟩,gb_set _ _ _ _⟩;have:=HLE.out;exact (World.cell?_of_block (heap_setCell_other _ _ _ _ (by show g≠rb;omega))).trans hx)
   have hl0: (((v :: t).length:Nat):Int)≠0:=by simp <;> omega
   have hl1: (v :: t).length=t.length+1:=rfl;have hl2: ((t.length:Int)+1 == 0)=false:=by rw [beq_eq_false_iff_ne];omega
   clear hb hr hcap hlt hrt hrow hg hlo2;go_enter Tryd.func38,Tryd.ntmps38;go_wp2_with fail;go_ret;exact HZ.out
theorem RX.bad {rb mb lb:Nat} {r:RdS} {W:World} (h:RX rb mb lb r W):RX rb mb lb ⟨r.left,true⟩ (W.setCell ⟨rb,2,none⟩ (.bool true)):=by
 obtain ⟨lo,lc,hb,hr,hcap⟩:=h.blk;refine ⟨⟨lo,lc,(heap_setCell_same _ _ _ _ _ _ hb).trans rfl,hr.mono fun g a x hgl hx=> ?_,hcap⟩,h.le⟩;have:=h.le;exact (World.cell?_of_block (heap_setCell_other _ _ _ _ (by show g≠rb;omega))).trans hx
theorem RX.c2 {rb mb lb:Nat} {r:RdS} {W:World} (h:RX rb mb lb r W):W.cell? ⟨rb,2,none⟩=some (.bool r.wrong)∧W.frozen? ⟨rb,2,none⟩=false:=by
 obtain ⟨lo,lc,hb,hr,hcap⟩:=h.blk;exact ⟨(cell_of_row _ _ 2 _ _ _ hb).trans rfl,frozen_of_row _ _ _ _ _ hb⟩
theorem RX.c0 {rb mb lb:Nat} {r:RdS} {W:World} (h:RX rb mb lb r W):W.cell? ⟨rb,0,none⟩=some (.pointer (some ⟨mb,0,none⟩)):=by
 obtain ⟨lo,lc,hb,hr,hcap⟩:=h.blk;exact (cell_of_row _ _ 0 _ _ _ hb).trans rfl
set_option maxRecDepth 100000 in
set_option maxHeartbeats 1000000 in
theorem belowC {rb mb lb:Nat} {r:RdS} (most:Int) {W:World} (h:RX rb mb lb r W):
 Calls Tryd.prog 35 #[.pointer (some ⟨rb,0,none⟩),.int .i64 most] W (RdP rb mb lb (.int .i64 (beF most r).1) (beF most r).2 W):=by
 have HN:=Lib.hid (nextC h);obtain ⟨v,hv⟩:∃v,(nxF r).1=v:=⟨_,rfl⟩;obtain ⟨r1,hr1⟩:∃r1,(nxF r).2=r1:=⟨_,rfl⟩;rw [hv,hr1] at HN;have HBE:Hid (beF most r=if v < 0∨most≤v then (0,⟨r1.left,true⟩) else (v,r1)):=Lib.hid (by
  unfold beF;rw [hv,hr1];split
  · rfl
  · rw [←hv,←hr1])
 clear hv hr1 h;go_enter Tryd.func35,Tryd.ntmps35;go_wp2_with fail;refine HN.out.mono ?_;rintro e W1 ⟨rfl,hx1,hg1⟩;have HX1:=Lib.hid hx1;have HG1:=Lib.hid hg1;clear hx1 hg1 HN;have HZ:Hid (RdP rb mb lb (.int .i64 0) ⟨r1.left,true⟩ W (.returned (.int .i64 0)) (W1.setCell ⟨rb,2,none⟩ (.bool true))):=Lib.hid ⟨rfl,HX1.out.bad,gb_trans HG1.out (gb_set _ _ _ _)⟩;obtain ⟨x2,f2⟩:=HX1.out.c2;by_cases h0:v < 0
 · have HE:Hid (beF most r= (0,⟨r1.left,true⟩)):=Lib.hid (by rw [HBE.out,if_pos (.inl h0)]);go_wp2_with fail;go_ret;rw [HE.out];exact HZ.out
 · by_cases h1:most≤v
   · have HE:Hid (beF most r= (0,⟨r1.left,true⟩)):=Lib.hid (by rw [HBE.out,if_pos (.inr h1)]);go_wp2_with fail;go_ret;rw [HE.out];exact HZ.out
   · have HE:Hid (beF most r= (v,r1)):=Lib.hid (by rw [HBE.out,if_neg (by omega)]);have HZ2:Hid (RdP rb mb lb (.int .i64 v) r1 W (.returned (.int .i64 v)) W1):=Lib.hid ⟨rfl,HX1.out,HG1.out⟩;go_wp2_with fail;go_ret;rw [HE.out];exact HZ2.out
def LiP (rb mb lb n:Nat) (l:List Int) (r:RdS) (W:World) (e:Ending) (W':World):Prop:=
 ∃o c,e= .returned (.slice o n c)∧W'.ownsRow W.heap.size 2 1 (.slice o n c) n (intsV l)∧RX rb mb lb r W'∧W.grownBy W' (some rb)
set_option maxRecDepth 100000 in
set_option maxHeartbeats 2000000 in
theorem listC {rb mb lb:Nat} {r:RdS} (n:Nat) {W:World} (hn:n≤100000) (h:RX rb mb lb r W):
 Calls Tryd.prog 34 #[.pointer (some ⟨rb,0,none⟩),.int .i64 n] W (LiP rb mb lb n (liF n r).1 (liF n r).2 W):=by
 have HH0:Hid (∃o c,Value.slice none 0 0= .slice o 0 c∧W.ownsRow W.heap.size 2 1 (.slice o 0 c) 0 (intsV (liF 0 r).1)∧RX rb mb lb (liF 0 r).2 W∧W.grownBy W (some rb)):=Lib.hid ⟨none,0,rfl,World.ownsRow_nil _ _ _ _,h,gb_refl _ _⟩;have HRB:=Lib.hid h.lt;obtain ⟨ii,hi1,hi2,hi3,hi4⟩:=info_parts info_ints;have HI:=Lib.hid (And.intro hi1 (And.intro hi2 (And.intro hi3 hi4)));clear h hi1 hi2 hi3 hi4;go_enter Tryd.func34,Tryd.ntmps34;go_wp2_with fail
 go_loopw [5,7] (fun lv iv W1=>∃i:Nat,iv= .int .i64 i∧i≤n∧Hid (∃o c,lv= .slice o i c∧W1.ownsRow W.heap.size 2 1 (.slice o i c) i (intsV (liF i r).1)∧RX rb mb lb (liF i r).2 W1∧W.grownBy W1 (some rb))) (fun _ iv _=>n - (intOf iv).toNat)
 case atStart=>exact ⟨0,rfl,by omega,HH0⟩
 case round=>
  clear HH0;obtain ⟨i,rfl,hi,HH⟩:=hrel;obtain ⟨o,c,rfl,ho,hx,hg⟩:=HH.out;have hi0: (0:Int)≤i:=by omega
  have HO:=Lib.hid ho;have HX:=Lib.hid hx;have HG:=Lib.hid hg;clear ho hx hg;by_cases hlt:i < n
  · have hlti: (i:Int) < n:=by omega
    have HN:=Lib.hid (nextC HX.out);obtain ⟨v,hv⟩:∃v,(nxF (liF i r).2).1=v:=⟨_,rfl⟩;obtain ⟨r1,hr1⟩:∃r1,(nxF (liF i r).2).2=r1:=⟨_,rfl⟩;rw [hv,hr1] at HN;have HS:Hid (liF (i+1) r= ((liF i r).1 ++ [v],r1)):=Lib.hid (by rw [liF,hv,hr1]);clear hv hr1;go_wp2_with fail;refine HN.out.mono ?_;rintro e W2 ⟨rfl,hx2,hg2⟩;have HX2:=Lib.hid hx2;have HG2:=Lib.hid (gb_trans HG.out hg2);have HO2:Hid ((W2.alloc (.cells #[.int .i64 v] 2)).ownsRow W.heap.size 2 1 (.slice o i c) i (intsV (liF i r).1)):=Lib.hid ((HO.out.kept hg2 (.inr (fun e=>by have:=(HO.out.lt _ e).1;have:=HRB.out;omega))).alloc _);have HLE:Hid (W.heap.size≤ (W2.alloc (.cells #[.int .i64 v] 2)).heap.size):=Lib.hid (by have:=HG2.out.size;simp;omega);clear hx2 hg2 HN;go_wp2_with (at_builtin;refine wpList_append_keep rfl _ _ 23 rfl W.heap.size 2 ii (.int .i64 0) 1 8 Tryd.underlying23 HI.out.1 HI.out.2.1 HI.out.2.2.1 HI.out.2.2.2 rfl (by decide) (.slice o i c) i (intsV (liF i r).1) rfl HO2.out ⟨W2.heap.size,0,none⟩ 1 1 [.int .i64 v] rfl rfl (arr_one _ _ _) (by simp [Value.oneCell']) (by unfold maxLen;omega) (by omega) HLE.out ?_);intro o3 c3 W3 ho3 hg3 hn3;have HZ:Hid (∃o c,Value.slice o3 (i+1) c3= .slice o (i+1) c∧W3.ownsRow W.heap.size 2 1 (.slice o (i+1) c) (i+1) (intsV (liF (i+1) r).1)∧RX rb mb lb (liF (i+1) r).2 W3∧W.grownBy W3 (some rb)):=Lib.hid (by
     have hrb:=HRB.out;have hown:∀k,k < W.heap.size→some k≠ (Value.slice o i c).ownBlock:=fun k hk e=>by have:=(HO.out.lt _ e.symm).1;omega
     have hlow:Below W.heap.size W2 W3:=(ball' (Below.refl _ _) _ HG2.out.size).grown hg3 (by have:=HG2.out.size;simp;omega) (fun q hq=>(HO.out.lt q hq).1);refine ⟨o3,c3,rfl, ?_, ?_,⟨hlow.os.trans HG2.out.os,hlow.tape.trans HG2.out.tape,hlow.output.trans HG2.out.output,Nat.le_trans HG2.out.size hlow.size,fun k hk hne=>(hlow.block k hk).trans (HG2.out.block k hk hne)⟩⟩
     · rw [HS.out];simp only [intsV,List.map_append,List.map_cons,List.map_nil] at ho3 ⊢;exact ho3
     · rw [HS.out];obtain ⟨lo,lc,h1,h2,h3⟩:=HX2.out.blk;have hle:=HX2.out.le;exact ⟨⟨lo,lc,(hlow.block _ hrb).trans h1,h2.mono fun _ _ _ hgl=>intAt.below (hlow.mono (by omega)) hgl,h3⟩,hle⟩)
    clear ho3 hg3 hn3 HO HX HG HX2 HG2 HO2 HLE HH;go_wp2_with fail;go_roundw;case rel=>exact ⟨i+1,by go_num,by omega,HZ⟩
    case measure=>simp [intOf];omega
  · have hlti:¬ (i:Int) < n:=by omega
    have hin:i=n:=by omega
    have HZ:Hid (LiP rb mb lb n (liF n r).1 (liF n r).2 W (.returned (.slice o i c)) wr):=Lib.hid (by subst hin;exact ⟨o,c,rfl,HO.out,HX.out,HG.out⟩);clear hin;go_wp2_with fail;go_ret;exact HZ.out
end Go.Proofs.YtnoibjahliafpaaDoor
namespace Go.Proofs.YtnoibjahliafpaaDoor
open Go.ChangeShapes Go.WideShapes Go.ChangeAt Go.RowKit
theorem step_append_keep {P:Program} {w:World} {ops:Array Oper} {o:Oper} {a:Act} {K:Act→World→Prop} {Q:Exit→Act→World→Prop} {E:Prop} (hgd:o.guard=none) (s x:Operand) (t:TypeId)
 (ho:o.op= .call { callee:= .builtin .append,args:=#[s,x],argTypes:=#[t,t] })
 (base:Nat) (e:TypeId) (i:TypeInfo) (z:Value) (size bytes:Nat) (ht:P.underlying t=some (.slice e)) (hi:P.info? e=some i) (hz:i.zero=some z)
 (hsize:i.size=size) (hby:i.bytes=bytes) (hzs:z.cells.size=size) (hsz:0 < size)
 (v:Value) (n:Nat) (xs:List Value) (hs:a.eval s=v) (hown:w.ownsRow base e size v n xs)
 (ad:Addr) (m c:Nat) (news:List Value) (hx:a.eval x= .slice (some ad) m c) (hl:news.length=m*size) (hnews:∀j u,news[j]? =some u→w.cell? (ad.add j)=some u) (h1:∀u ∈ news,u.oneCell'=true)
 (h63:n+m≤maxLen) (hbytes: (n+m)*bytes≤140737488355328) (hbase:base≤w.heap.size)
 (h:∀o' c' w',w'.ownsRow base e size (.slice o' (n+m) c') (n+m) (xs ++ news)→w.grownBy w' v.ownBlock→ ((Value.slice o' (n+m) c').ownBlock=v.ownBlock∨ (Value.slice o' (n+m) c').ownBlock=some w.heap.size)→K (a.put o.dst (.slice o' (n+m) c')) w'):
 if Region.wanted o (yielded ops a.tmps)=true then Oper.wp P o a w K Q else E:=by
 have hw:Region.wanted o (yielded ops a.tmps)=true:=by simp [Region.wanted,hgd]
 rw [if_pos hw];obtain ⟨v',w',hr,h2,h3,h4⟩:=run_append_own (P:=P) w base t o.type e i z size bytes ht hi hz hsize hby hzs hsz v n xs hown ad m c news hl hnews h1 h63 hbytes hbase;have h5:=run_append_block (P:=P) w base t o.type e i z size bytes ht hi hz hsize hby hzs hsz v n xs hown ad m c news hl hnews h1 h63 hbytes hr;obtain ⟨o',c',rfl⟩:=owns_head h2;unfold Oper.wp execOp;simp only [ho,resolve,invoke,builtin,Sem.run_bind,Sem.run_pure,Result.andThen_ok,List.map_toArray,List.map_cons,List.map_nil,hs,hx,hr];exact h o' c' w' h2 h3 h5
theorem step_load_row {P:Program} {w:World} {ops:Array Oper} {o:Oper} {a:Act} {K:Act→World→Prop} {Q:Exit→Act→World→Prop} {E:Prop} (hgd:o.guard=none) (ty:TypeId) (x:Operand) (ho:o.op= .load ty x)
 (g:Nat) (hx:a.eval x= .pointer (some ⟨g,0,none⟩)) (t:TypeId) (cs:Array Value) (fr:Nat × Nat) (d:TypeDesc) (hg:w.heap[g]? =some (.cells cs t fr))
 (hu:P.underlying ty=some d) (hd: (match d with | .struct _ | .array _ _=>true | _=>false)=true) (hi: (P.info? ty).map (·.size)=some cs.size)
 (h:K (a.put o.dst (.agg cs)) w):if Region.wanted o (yielded ops a.tmps)=true then Oper.wp P o a w K Q else E:=by
 have hw:Region.wanted o (yielded ops a.tmps)=true:=by simp [Region.wanted,hgd]
 rw [if_pos hw];exact wp_load_row ty x ho g hx t cs fr d hg hu hd hi h
end Go.Proofs.YtnoibjahliafpaaDoor
