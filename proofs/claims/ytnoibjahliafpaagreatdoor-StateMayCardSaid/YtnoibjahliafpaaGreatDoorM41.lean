/- The document's copy of a state: how it stands at each loop's head. -/
import Derived.Test.YtnoibjahliafpaaGreatDoorM25
import Derived.StillTailTactics
set_option linter.unusedVariables false
set_option linter.unusedSimpArgs false
namespace Go.Proofs.YtnoibjahliafpaaGreatDoor
open Go.ChangeShapes Go.WideShapes Go.ChangeAt Go.RowKit
def startR (k:Nat × Nat × Nat):RowS:=if k=kG then ⟨2,1,.slice none 0 0,0,[]⟩ else if k=kC then ⟨66,2,.slice none 0 0,0,[]⟩ else if k=kP then ⟨39,4,.slice none 0 0,0,[]⟩ else rowNil
theorem startR_nil (k:Nat × Nat × Nat): (startR k).v= .slice none 0 0∧ (startR k).n=0∧ (startR k).xs= []:=by
 unfold startR rowNil;split
 · simp
 · split
   · simp
   · split <;> simp
theorem startR_own (B:Nat) (w:World):Own B w startR:=by
 refine ⟨fun k=> ?_,fun k k' _ g hg=> ?_⟩
 · obtain ⟨h1,h2,h3⟩:=startR_nil k;rw [h1,h2,h3];exact World.ownsRow_nil _ _ _ _
 · rw [(startR_nil k).1] at hg;cases hg
theorem startR_ty:TyOk startR:=by
 refine ⟨fun k hk=> ?_,fun k hk=> ?_⟩
 · unfold startR;by_cases h1:k=kG
   · rw [if_pos h1];simp
   · rw [if_neg h1,if_neg hk];split <;> simp [rowNil]
 · unfold startR;by_cases h1:k=kG
   · rw [if_pos h1];simp
   · rw [if_neg h1];rw [if_neg hk];split <;> simp [rowNil]
structure OX (w0:World) (hs:SH) (s:StateD) (i:Nat) (R:Nat × Nat × Nat→RowS) (go:Option Addr) (gc:Nat) (co:Option Addr) (cc:Nat) (xs:List Value) (W:World):Prop where
 c:CC w0 hs s R #[.slice go s.globals.length gc,.slice co i cc,.slice none 0 0,.int .i64 s.last,.int .i64 s.alone,.int .i64 s.claim] W
 hg:R kG= ⟨2,1,.slice go s.globals.length gc,s.globals.length,intsV s.globals⟩
 hc:R kC= ⟨66,2,.slice co i cc,i,xs⟩
 hp:R kP= ⟨39,4,.slice none 0 0,0,[]⟩
 ok:∀j (hj:j < s.chans.length),j < i→ChOk R xs j s.chans[j]
structure IX (w0:World) (hs:SH) (s:StateD) (i:Nat) (ch:ChanD) (cb k:Nat) (qo:Option Addr) (qc:Nat) (ys:List Value) (R:Nat × Nat × Nat→RowS) (go:Option Addr) (gc:Nat) (co:Option Addr) (cc:Nat) (xs:List Value) (W:World):Prop where
 ox:OX w0 hs s i R go gc co cc xs W
 hq:R (kQ i)= ⟨76,1,.slice qo k qc,k,ys⟩
 ms:∀j (hj:j < ch.queue.length),j < k→ys[j]? =some (R (kM i j)).v∧IsInts (R (kM i j)) ch.queue[j]
 hb:W.heap[cb]? =some (.cells #[.int .i64 ch.shape,.slice qo k qc] 66 (0,0))
 ge:w0.heap.size+3≤cb
 ne: (R kC).v.ownBlock≠some cb
structure PX (w0:World) (hs:SH) (s:StateD) (j:Nat) (R:Nat × Nat × Nat→RowS) (go:Option Addr) (gc:Nat) (co:Option Addr) (cc:Nat) (xs:List Value) (po:Option Addr) (pc:Nat) (ps:List Value) (W:World):Prop where
 c:CC w0 hs s R #[.slice go s.globals.length gc,.slice co s.chans.length cc,.slice po j pc,.int .i64 s.last,.int .i64 s.alone,.int .i64 s.claim] W
 hg:R kG= ⟨2,1,.slice go s.globals.length gc,s.globals.length,intsV s.globals⟩
 hc:R kC= ⟨66,2,.slice co s.chans.length cc,s.chans.length,xs⟩
 hp:R kP= ⟨39,4,.slice po j pc,j,ps⟩
 ok:∀i (hi:i < s.chans.length),ChOk R xs i s.chans[i]
 pk:∀m (hm:m < s.procs.length),m < j→PrOk R ps m s.procs[m]
section
variable {nv:Array Value} {w0 W W1 W2 W3:World} {hs:SH} {s:StateD} {i k cb j:Nat} {ch:ChanD} {R:Nat × Nat × Nat→RowS} {go co qo po:Option Addr} {gc cc qc pc:Nat} {xs ys ps:List Value} {o:Obj}
theorem own_len (h:CC w0 hs s R nv W) {q:Nat × Nat × Nat} {e:TypeId} {size n:Nat} {v:Value} {zs:List Value} (hq:R q= ⟨e,size,v,n,zs⟩):zs.length=n*size:=by
 have h1:=h.own.row q;rw [hq] at h1;exact h1.1
theorem own_at (h:CC w0 hs s R nv W) {q:Nat × Nat × Nat} {e:TypeId} {size n:Nat} {v:Value} {zs:List Value} (hq:R q= ⟨e,size,v,n,zs⟩):W.ownsRow (w0.heap.size+3) e size v n zs:=by
 have h1:=h.own.row q;rw [hq] at h1;exact h1
theorem OX.start (h:CC w0 hs s startR #[.slice none 0 0,.slice none 0 0,.slice none 0 0,.int .i64 s.last,.int .i64 s.alone,.int .i64 s.claim] W) (hb:Below W.heap.size W W1) (hr:W1.ownsRow W.heap.size 2 1 (.slice go s.globals.length gc) s.globals.length (intsV s.globals)):
 OX w0 hs s 0 (upd startR kG ⟨2,1,.slice go s.globals.length gc,s.globals.length,intsV s.globals⟩) go gc none 0 [] (W1.setCell ⟨w0.heap.size+2,0,none⟩ (.slice go s.globals.length gc)):=by
 refine ⟨(h.put hb kG ⟨2,1,.slice go s.globals.length gc,s.globals.length,intsV s.globals⟩ hr (fun _=>by simp) (fun _=>by simp)).nset 0 (.slice go s.globals.length gc),upd_same _ _ _, ?_, ?_,fun j _ hj=>absurd hj (by omega)⟩
 · rw [upd_ne _ _ (by simp [kG,kC,kP,kQ,kM,kF] <;> omega)];rfl
 · rw [upd_ne _ _ (by simp [kG,kC,kP,kQ,kM,kF] <;> omega)];rfl
theorem IX.enter (h:OX w0 hs s i R go gc co cc xs W) (hi:i < s.chans.length):
 IX w0 hs s i s.chans[i] W.heap.size 0 none 0 [] (upd R (kQ i) ⟨76,1,.slice none 0 0,0,[]⟩) go gc co cc xs (W.alloc (.cells #[.int .i64 s.chans[i].shape,.slice none 0 0] 66)):=by
 refine ⟨⟨h.c.put (ball _) (kQ i) ⟨76,1,.slice none 0 0,0,[]⟩ (World.ownsRow_nil _ _ _ _) (fun _=>by simp) (fun _=>by simp), ?_, ?_, ?_,fun j hj hji=> ?_⟩,upd_same _ _ _,fun j _ hj=>absurd hj (by omega),heap_alloc_new _ _,h.c.le, ?_⟩
 · rw [upd_ne _ _ (by simp [kG,kC,kP,kQ,kM,kF] <;> omega)];exact h.hg
 · rw [upd_ne _ _ (by simp [kG,kC,kP,kQ,kM,kF] <;> omega)];exact h.hc
 · rw [upd_ne _ _ (by simp [kG,kC,kP,kQ,kM,kF] <;> omega)];exact h.hp
 · exact (h.ok j hj hji).of (upd_ne _ _ (by simp [kG,kC,kP,kQ,kM,kF] <;> omega)) (fun m=>upd_ne _ _ (by simp [kG,kC,kP,kQ,kM,kF] <;> omega)) rfl rfl
 · rw [upd_ne _ _ (by simp [kG,kC,kP,kQ,kM,kF] <;> omega)];intro e;have:=((h.c.own.row kC).lt _ e).2;omega
theorem IX.step (h:IX w0 hs s i ch cb k qo qc ys R go gc co cc xs W) (hk:k < ch.queue.length) {mo:Option Addr} {mc:Nat} (hb1:Below W.heap.size W W1) (hr1:W1.ownsRow W.heap.size 2 1 (.slice mo ch.queue[k].length mc) ch.queue[k].length (intsV ch.queue[k]))
 {qo':Option Addr} {qc':Nat} (hg2: (W1.alloc o).grownBy W2 (Value.slice qo k qc).ownBlock) (hr2:W2.ownsRow (w0.heap.size+3) 76 1 (.slice qo' (k+1) qc') (k+1) (ys ++ [.slice mo ch.queue[k].length mc]))
 (hn2: (Value.slice qo' (k+1) qc').ownBlock= (Value.slice qo k qc).ownBlock∨ (Value.slice qo' (k+1) qc').ownBlock=some (W1.alloc o).heap.size):
 ∃R',IX w0 hs s i ch cb (k+1) qo' qc' (ys ++ [.slice mo ch.queue[k].length mc]) R' go gc co cc xs (W2.setCell ⟨cb,1,none⟩ (.slice qo' (k+1) qc')):=by
 have c1:=h.ox.c.put hb1 (kM i k) ⟨2,1,.slice mo ch.queue[k].length mc,ch.queue[k].length,intsV ch.queue[k]⟩ hr1 (fun _=>by simp) (fun _=>by simp);have c1':=c1.below (ball o);have hq1:upd R (kM i k) ⟨2,1,.slice mo ch.queue[k].length mc,ch.queue[k].length,intsV ch.queue[k]⟩ (kQ i)= ⟨76,1,.slice qo k qc,k,ys⟩:=by
  rw [upd_ne _ _ (by simp [kG,kC,kP,kQ,kM,kF] <;> omega)];exact h.hq
 have c2:=c1'.grow (kQ i) hq1 hg2 hr2 hn2;have hcb:cb < W.heap.size:=lt_of_block h.hb;have hbq: (Value.slice qo k qc).ownBlock≠some cb:=owns_neObj (own_at h.ox.c h.hq) h.hb (by simp);have hb2:W2.heap[cb]? =some (.cells #[.int .i64 ch.shape,.slice qo k qc] 66 (0,0)):=
  (hg2.block cb (by have:=hb1.size;simp;omega) (fun e=>hbq e.symm)).trans (((ball o).block cb (Nat.lt_of_lt_of_le hcb hb1.size)).trans ((hb1.block cb hcb).trans h.hb))
 have hkc: (upd (upd R (kM i k) ⟨2,1,.slice mo ch.queue[k].length mc,ch.queue[k].length,intsV ch.queue[k]⟩) (kQ i) ⟨76,1,.slice qo' (k+1) qc',k+1,ys ++ [.slice mo ch.queue[k].length mc]⟩) kC=R kC:=by
  rw [upd_ne _ _ (by simp [kG,kC,kP,kQ,kM,kF] <;> omega),upd_ne _ _ (by simp [kG,kC,kP,kQ,kM,kF] <;> omega)]
 have c3:=c2.xset hb2 h.ge (fun q=>by
  by_cases e:q=kC
  · exact .inr (by rw [e,hkc];exact h.ne)
  · exact .inl (c2.ty.1 q e)) 1 (.slice qo' (k+1) qc')
 have hyl:ys.length=k:=by have:=own_len h.ox.c h.hq;omega
 refine ⟨_,⟨c3, ?_,hkc.trans h.ox.hc, ?_,fun j hj hji=> ?_⟩,upd_same _ _ _,fun j hj hjk=> ?_,heap_setCell_same _ _ _ _ _ _ hb2,h.ge,by rw [hkc];exact h.ne⟩
 · rw [upd_ne _ _ (by simp [kG,kC,kP,kQ,kM,kF] <;> omega),upd_ne _ _ (by simp [kG,kC,kP,kQ,kM,kF] <;> omega)];exact h.ox.hg
 · rw [upd_ne _ _ (by simp [kG,kC,kP,kQ,kM,kF] <;> omega),upd_ne _ _ (by simp [kG,kC,kP,kQ,kM,kF] <;> omega)];exact h.ox.hp
 · refine (h.ox.ok j hj hji).of ?_ (fun m=> ?_) rfl rfl
   · rw [upd_ne _ _ (by simp [kG,kC,kP,kQ,kM,kF] <;> omega),upd_ne _ _ (by simp [kG,kC,kP,kQ,kM,kF] <;> omega)]
   · rw [upd_ne _ _ (by simp [kG,kC,kP,kQ,kM,kF] <;> omega),upd_ne _ _ (by simp [kG,kC,kP,kQ,kM,kF] <;> omega)]
 · rw [upd_ne _ _ (by simp [kG,kC,kP,kQ,kM,kF] <;> omega)];by_cases e:j=k
   · subst e;rw [upd_same];exact ⟨by rw [List.getElem?_append_right (by omega),hyl];simp,_,_,rfl⟩
   · rw [upd_ne _ _ (by simp [kG,kC,kP,kQ,kM,kF] <;> omega),List.getElem?_append_left (by omega)];exact h.ms j hj (by omega)
theorem OX.next (h:IX w0 hs s i ch cb ch.queue.length qo qc ys R go gc co cc xs W) (hi:i < s.chans.length) (hch:s.chans[i]=ch) {co':Option Addr} {cc':Nat} (hg2: (W.alloc o).grownBy W2 (Value.slice co i cc).ownBlock)
 (hr2:W2.ownsRow (w0.heap.size+3) 66 2 (.slice co' (i+1) cc') (i+1) (xs ++ [.int .i64 ch.shape,.slice qo ch.queue.length qc])) (hn2: (Value.slice co' (i+1) cc').ownBlock= (Value.slice co i cc).ownBlock∨ (Value.slice co' (i+1) cc').ownBlock=some (W.alloc o).heap.size):
 ∃R',OX w0 hs s (i+1) R' go gc co' cc' (xs ++ [.int .i64 ch.shape,.slice qo ch.queue.length qc]) (W2.setCell ⟨w0.heap.size+2,1,none⟩ (.slice co' (i+1) cc')):=by
 have c2:=(h.ox.c.below (ball o)).grow kC h.ox.hc hg2 hr2 hn2;have hxl:xs.length=i*2:=own_len h.ox.c h.ox.hc;refine ⟨_,c2.nset 1 (.slice co' (i+1) cc'), ?_,upd_same _ _ _, ?_,fun j hj hji=> ?_⟩
 · rw [upd_ne _ _ (by simp [kG,kC,kP,kQ,kM,kF] <;> omega)];exact h.ox.hg
 · rw [upd_ne _ _ (by simp [kG,kC,kP,kQ,kM,kF] <;> omega)];exact h.ox.hp
 · by_cases e:j=i
   · subst e;refine ⟨?_, ?_,qo,qc,ys, ?_,fun m hm=> ?_⟩
     · rw [List.getElem?_append_right (by omega),hxl,hch];simp
     · rw [List.getElem?_append_right (by omega),hxl,upd_ne _ _ (by simp [kG,kC,kP,kQ,kM,kF] <;> omega),h.hq];simp
     · rw [upd_ne _ _ (by simp [kG,kC,kP,kQ,kM,kF] <;> omega),h.hq,hch]
     · rw [upd_ne _ _ (by simp [kG,kC,kP,kQ,kM,kF] <;> omega)];have hm':m < ch.queue.length:=by rw [←hch];exact hm
       have h2:=h.ms m hm' hm';simp only [hch];exact h2
   · exact (h.ox.ok j hj (by omega)).of (upd_ne _ _ (by simp [kG,kC,kP,kQ,kM,kF] <;> omega)) (fun m=>upd_ne _ _ (by simp [kG,kC,kP,kQ,kM,kF] <;> omega)) (List.getElem?_append_left (by omega)) (List.getElem?_append_left (by omega))
theorem PX.start (h:OX w0 hs s s.chans.length R go gc co cc xs W):PX w0 hs s 0 R go gc co cc xs none 0 [] W:=⟨h.c,h.hg,h.hc,h.hp,fun i hi=>h.ok i hi hi,fun m _ hm=>absurd hm (by omega)⟩
theorem PX.step (h:PX w0 hs s j R go gc co cc xs po pc ps W) (hj:j < s.procs.length) {fo:Option Addr} {fc:Nat} (hb:Below W.heap.size W W2) (hr:W2.ownsRow W.heap.size 2 1 (.slice fo s.procs[j].frame.length fc) s.procs[j].frame.length (intsV s.procs[j].frame))
 {po':Option Addr} {pc':Nat} (hg3: (W2.alloc o).grownBy W3 (Value.slice po j pc).ownBlock) (hr3:W3.ownsRow (w0.heap.size+3) 39 4 (.slice po' (j+1) pc') (j+1) (ps ++ [.int .i64 s.procs[j].type,.int .i64 s.procs[j].loc,.int .i64 s.procs[j].prio,.slice fo s.procs[j].frame.length fc]))
 (hn3: (Value.slice po' (j+1) pc').ownBlock= (Value.slice po j pc).ownBlock∨ (Value.slice po' (j+1) pc').ownBlock=some (W2.alloc o).heap.size):
 ∃R',PX w0 hs s (j+1) R' go gc co cc xs po' pc' (ps ++ [.int .i64 s.procs[j].type,.int .i64 s.procs[j].loc,.int .i64 s.procs[j].prio,.slice fo s.procs[j].frame.length fc]) (W3.setCell ⟨w0.heap.size+2,2,none⟩ (.slice po' (j+1) pc')):=by
 have c1:=(h.c.put hb (kF j) ⟨2,1,.slice fo s.procs[j].frame.length fc,s.procs[j].frame.length,intsV s.procs[j].frame⟩ hr (fun _=>by simp) (fun _=>by simp)).below (ball o);have hp1:upd R (kF j) ⟨2,1,.slice fo s.procs[j].frame.length fc,s.procs[j].frame.length,intsV s.procs[j].frame⟩ kP= ⟨39,4,.slice po j pc,j,ps⟩:=by
  rw [upd_ne _ _ (by simp [kG,kC,kP,kQ,kM,kF] <;> omega)];exact h.hp
 have c2:=c1.grow kP hp1 hg3 hr3 hn3;have hpl:ps.length=j*4:=own_len h.c h.hp;refine ⟨_,c2.nset 2 (.slice po' (j+1) pc'), ?_, ?_,upd_same _ _ _,fun i hi=> ?_,fun m hm hmj=> ?_⟩
 · rw [upd_ne _ _ (by simp [kG,kC,kP,kQ,kM,kF] <;> omega),upd_ne _ _ (by simp [kG,kC,kP,kQ,kM,kF] <;> omega)];exact h.hg
 · rw [upd_ne _ _ (by simp [kG,kC,kP,kQ,kM,kF] <;> omega),upd_ne _ _ (by simp [kG,kC,kP,kQ,kM,kF] <;> omega)];exact h.hc
 · refine (h.ok i hi).of ?_ (fun m=> ?_) rfl rfl
   · rw [upd_ne _ _ (by simp [kG,kC,kP,kQ,kM,kF] <;> omega),upd_ne _ _ (by simp [kG,kC,kP,kQ,kM,kF] <;> omega)]
   · rw [upd_ne _ _ (by simp [kG,kC,kP,kQ,kM,kF] <;> omega),upd_ne _ _ (by simp [kG,kC,kP,kQ,kM,kF] <;> omega)]
 · by_cases e:m=j
   · subst e;have hf:upd (upd R (kF m) ⟨2,1,.slice fo s.procs[m].frame.length fc,s.procs[m].frame.length,intsV s.procs[m].frame⟩) kP ⟨39,4,.slice po' (m+1) pc',m+1,ps ++ [.int .i64 s.procs[m].type,.int .i64 s.procs[m].loc,.int .i64 s.procs[m].prio,.slice fo s.procs[m].frame.length fc]⟩ (kF m)= ⟨2,1,.slice fo s.procs[m].frame.length fc,s.procs[m].frame.length,intsV s.procs[m].frame⟩:=by
      rw [upd_ne _ _ (by simp [kG,kC,kP,kQ,kM,kF] <;> omega),upd_same]
     refine ⟨?_, ?_, ?_, ?_,by rw [hf];exact ⟨_,_,rfl⟩⟩
     · rw [List.getElem?_append_right (by omega),hpl];simp
     · rw [List.getElem?_append_right (by omega),hpl];simp
     · rw [List.getElem?_append_right (by omega),hpl];simp
     · rw [List.getElem?_append_right (by omega),hpl,hf];simp
   · refine (h.pk m hm (by omega)).of ?_ (List.getElem?_append_left (by omega)) (List.getElem?_append_left (by omega)) (List.getElem?_append_left (by omega)) (List.getElem?_append_left (by omega));rw [upd_ne _ _ (by simp [kG,kC,kP,kQ,kM,kF] <;> omega),upd_ne _ _ (by simp [kG,kC,kP,kQ,kM,kF] <;> omega)]
theorem PX.done (h:PX w0 hs s s.procs.length R go gc co cc xs po pc ps W) (v0 v1 v2 v3 v4 v5:Value):
 SO w0.heap.size ((((((W.setCell ⟨w0.heap.size+1,0,none⟩ v0).setCell ⟨w0.heap.size+1,1,none⟩ v1).setCell ⟨w0.heap.size+1,2,none⟩ v2).setCell ⟨w0.heap.size+1,3,none⟩ v3).setCell ⟨w0.heap.size+1,4,none⟩ v4).setCell ⟨w0.heap.size+1,5,none⟩ v5) ⟨go,gc,co,cc,po,pc⟩ s∧
 Below w0.heap.size w0 ((((((W.setCell ⟨w0.heap.size+1,0,none⟩ v0).setCell ⟨w0.heap.size+1,1,none⟩ v1).setCell ⟨w0.heap.size+1,2,none⟩ v2).setCell ⟨w0.heap.size+1,3,none⟩ v3).setCell ⟨w0.heap.size+1,4,none⟩ v4).setCell ⟨w0.heap.size+1,5,none⟩ v5):=by
 have hne:∀k,(R k).v.ownBlock≠some (w0.heap.size+1):=fun k e=>by have:=((h.c.own.row k).lt _ e).1;omega
 refine ⟨⟨R,((((((h.c.own.other _ _ hne).other _ _ hne).other _ _ hne).other _ _ hne).other _ _ hne).other _ _ hne).mono (by omega),h.hg,⟨xs,h.hc,fun i hi=>h.ok i hi⟩,⟨ps,h.hp,fun m hm=>h.pk m hm hm⟩⟩, ?_⟩;exact (((((h.c.bel.setCell (by simp) _).setCell (by simp) _).setCell (by simp) _).setCell (by simp) _).setCell (by simp) _).setCell (by simp) _
end
end Go.Proofs.YtnoibjahliafpaaGreatDoor
namespace Go.Proofs.YtnoibjahliafpaaGreatDoor
open Go.ChangeShapes Go.WideShapes Go.ChangeAt Go.RowKit
theorem arr_cells (W:World) (cs:Array Value) (T:TypeId) (l:List Value) (h:l=cs.toList):∀j u,l[j]? =some u→ (W.alloc (.cells cs T)).cell? ((⟨W.heap.size,0,none⟩:Addr).add j)=some u:=by
 intro j u hj;subst h;rw [held.add_off,cell_of_row _ _ _ _ _ _ (heap_alloc_new W _)];simpa using hj
set_option maxHeartbeats 4000000 in
set_option maxRecDepth 100000 in
theorem copy12H {B:Nat} {hs:SH} {s:StateD} (w:World) (hB:B≤w.heap.size) (hd:SD B w hs s) (hl:LensB s):
 Calls Tryz.prog 19 #[sV hs s] w (CopyP B w s):=by
 have HL:=Lib.hid hl;have hgl:=hd.globals.1;have hcl:=hd.chans.1;have hpl:=hd.procs.1;obtain ⟨jc,hjc,jc0,jc1,jc2⟩:=info_parts info_chans;have HJC:=Lib.hid (And.intro hjc (And.intro jc0 (And.intro jc1 jc2)));obtain ⟨jq,hjq,jq0,jq1,jq2⟩:=info_parts info_queue;have HJQ:=Lib.hid (And.intro hjq (And.intro jq0 (And.intro jq1 jq2)));obtain ⟨jp,hjp,jp0,jp1,jp2⟩:=info_parts info_procs;have HJP:=Lib.hid (And.intro hjp (And.intro jp0 (And.intro jp1 jp2)));obtain ⟨W1,hW1⟩:∃W1,W1= ((w.alloc (.cells (sCells hs s) 34)).alloc (.cells #[.slice none 0 0,.slice none 0 0,.slice none 0 0,.int .i64 0,.int .i64 0,.int .i64 0] 34)).alloc (.cells #[.slice none 0 0,.slice none 0 0,.slice none 0 0,.int .i64 s.last,.int .i64 s.alone,.int .i64 s.claim] 34):=⟨_,rfl⟩;have hbel:Below w.heap.size w W1:=by rw [hW1];exact (((Below.refl _ _).alloc (Nat.le_refl _) _).alloc (by simp) _).alloc (by simp;omega) _
 have HC1:Hid (CC w hs s startR #[.slice none 0 0,.slice none 0 0,.slice none 0 0,.int .i64 s.last,.int .i64 s.alone,.int .i64 s.claim] W1):=Lib.hid (by
  refine ⟨startR_own _ _,startR_ty, ?_, ?_, ?_,hbel,(hd.below (hbel.mono hB)).lift hB⟩
  · rw [hW1];exact (Below.heap_alloc _ _ _ (by simp;omega)).trans ((Below.heap_alloc _ _ _ (by simp)).trans (heap_alloc_new _ _))
  · rw [hW1];exact (Below.heap_alloc _ _ _ (by simp)).trans (new_at (by simp))
  · rw [hW1];exact new_at (by simp))
 clear hd hl hjc jc0 jc1 jc2 hjq jq0 jq1 jq2 hjp jp0 jp1 jp2 hbel;unfold sCells at hW1;unfold sV sCells;go_enter Tryz.func19,Tryz.ntmps19;go_upto_region 2 with fail
 rw [←hW1,show w.heap.size+1+1=w.heap.size+2 from rfl];have x0:W1.cell? ⟨w.heap.size,0,none⟩=some (.slice hs.go s.globals.length hs.gc):=(cell_of_row _ _ _ _ _ _ HC1.out.box).trans rfl;have n0:W1.cell? ⟨w.heap.size+2,0,none⟩=some (.slice none 0 0):=(cell_of_row _ _ _ _ _ _ HC1.out.nb).trans rfl;clear hW1;go_wp2_with (refine wpList_append_ints rfl _ _ 23 rfl Tryz.underlying23 hs.go hs.gc s.globals rfl rfl HC1.out.sd.globals HC1.out.bel.size HL.out.g ?_);intro go gc W2 hr2 hb2;have HO:=Lib.hid (OX.start HC1.out hb2 hr2);have n0':W2.cell? ⟨w.heap.size+2,0,none⟩=some (.slice none 0 0):=(hb2.cell (lt_of_block HC1.out.nb)).trans n0;have f0:W2.frozen? ⟨w.heap.size+2,0,none⟩=false:=(hb2.frozen (p:=⟨w.heap.size+2,0,none⟩) (lt_of_block HC1.out.nb)).trans (frozen_of_row _ _ _ _ _ HC1.out.nb);clear hr2 hb2 x0 n0 HC1;go_wp2_with fail;clear n0' f0;generalize W2.setCell ⟨w.heap.size+2,0,none⟩ (.slice go s.globals.length gc)=W3 at HO ⊢
 go_loopw [4] (fun iv W=>∃i:Nat,iv= .int .i64 i∧i≤s.chans.length∧Hid (∃R go gc co cc xs,OX w hs s i R go gc co cc xs W)) (fun iv _=>s.chans.length - (intOf iv).toNat)
 case atStart=>exact ⟨0,rfl,by omega,Lib.hid ⟨_,_,_,_,_,_,HO.out⟩⟩
 case round=>
  clear HO;obtain ⟨i,rfl,hi,HOX⟩:=hrel;obtain ⟨R,go',gc',co,cc,xs,hox⟩:=HOX.out;have HO:=Lib.hid hox;clear hox HOX;have hi0: (0:Int)≤i:=by omega
  have x1:wr.cell? ⟨w.heap.size,1,none⟩=some (.slice hs.co s.chans.length hs.cc):=(cell_of_row _ _ _ _ _ _ HO.out.c.box).trans rfl;by_cases hlt:i < s.chans.length
  · have hlti: (i:Int) < s.chans.length:=by omega
    obtain ⟨g1,off1,ho1,hg1,ha⟩:=HO.out.c.sd.chans.cell hlt;obtain ⟨ch,hch⟩:∃c,s.chans[i]=c:=⟨_,rfl⟩;have HCH:=Lib.hid hch;rw [hch] at ha;have e0:=ha.c0;rw [ho1] at x1;have HI0:=Lib.hid (IX.enter HO.out hlt);rw [hch] at HI0;have hqB:ch.queue.length*24≤140737488355328:=by
     have:=(HL.out.q _ (List.getElem_mem hlt)).1;rw [hch] at this;exact this
    have HQL:Hid (∀y ∈ ch.queue,y.length*8≤140737488355328):=Lib.hid (by
     have:=(HL.out.q _ (List.getElem_mem hlt)).2;rw [hch] at this;exact this)
    clear ha ho1 hg1 hch;go_upto_region 7 with fail
    obtain ⟨cb,hcb⟩:∃b,wr.heap.size=b:=⟨_,rfl⟩;generalize wr.alloc (.cells #[.int .i64 ch.shape,.slice none 0 0] 66)=W5 at HI0 ⊢;rw [hcb] at HI0 ⊢;clear hcb x1 e0 HO;go_wp2_with fail
    go_loopw [6] (fun kv W=>∃k:Nat,kv= .int .i64 k∧k≤ch.queue.length∧Hid (∃R go gc co cc xs qo qc ys,IX w hs s i ch cb k qo qc ys R go gc co cc xs W)) (fun kv _=>ch.queue.length - (intOf kv).toNat)
    case atStart=>exact ⟨0,rfl,by omega,Lib.hid ⟨_,_,_,_,_,_,_,_,_,HI0.out⟩⟩
    case round=>
     clear HI0;obtain ⟨k,rfl,hk,HIX⟩:=hrel;obtain ⟨R,go',gc',co,cc,xs,qo,qc,ys,hix⟩:=HIX.out;have HI:=Lib.hid hix;clear hix HIX;have hk0: (0:Int)≤k:=by omega
     have x1:wr.cell? ⟨w.heap.size,1,none⟩=some (.slice hs.co s.chans.length hs.cc):=(cell_of_row _ _ _ _ _ _ HI.out.ox.c.box).trans rfl;obtain ⟨g1,off1,ho1,hg1,ha⟩:=HI.out.ox.c.sd.chans.cell hlt;rw [HCH.out] at ha;rw [ho1] at x1;obtain ⟨mo0,mc0,e1,hq⟩:=ha.queue;by_cases hlk:k < ch.queue.length
     · have hlki: (k:Int) < ch.queue.length:=by omega
       obtain ⟨g2,off2,ho2,hg2,so,sc,e2,hmsg⟩:=hq.cell hlk;rw [Nat.mul_one] at e2;rw [ho2] at e1;obtain ⟨msg,hms⟩:∃m,ch.queue[k]=m:=⟨_,rfl⟩;have HMS:=Lib.hid hms;rw [hms] at e2 hmsg;have HMR:=Lib.hid hmsg;have HML:Hid (msg.length*8≤140737488355328):=Lib.hid (hms ▸ HQL.out _ (List.getElem_mem hlk));clear ha hq ho1 ho2 hg1 hg2 hms hmsg;go_wp2_with (refine wpList_append_ints rfl _ _ 76 rfl Tryz.underlying76 so sc msg rfl rfl HMR.out HI.out.ox.c.bel.size HML.out ?_);intro mo mc W6 hr6 hb6;have HR6:=Lib.hid hr6;have HB6:=Lib.hid hb6;have c1:W6.cell? ⟨cb,1,none⟩=some (.slice qo k qc):=(hb6.cell (lt_of_block HI.out.hb)).trans ((cell_of_row _ _ _ _ _ _ HI.out.hb).trans rfl);have HYR:Hid ((W6.alloc (.cells #[.slice mo msg.length mc] 76)).ownsRow (w.heap.size+3) 76 1 (.slice qo k qc) k ys):=Lib.hid ((owns_below (own_at HI.out.ox.c HI.out.hq) hb6).alloc _);have HLE:Hid (w.heap.size+3≤ (W6.alloc (.cells #[.slice mo msg.length mc] 76)).heap.size):=Lib.hid (by have:=HI.out.ox.c.le;have:=hb6.size;simp;omega);clear hr6 hb6 x1 e1 e2;go_wp2_with (at_builtin;refine wpList_append_keep rfl _ _ 64 rfl (w.heap.size+3) 76 jq (.slice none 0 0) 1 24 Tryz.underlying64 HJQ.out.1 HJQ.out.2.1 HJQ.out.2.2.1 HJQ.out.2.2.2 rfl (by decide) (.slice qo k qc) k ys rfl HYR.out ⟨W6.heap.size,0,none⟩ 1 1 [.slice mo msg.length mc] rfl rfl (arr_cells _ _ _ _ rfl) (by simp [Value.oneCell']) (by unfold maxLen;omega) (by omega) HLE.out ?_);intro qo' qc' W7 hr7 hg7 hn7;have HST:=Lib.hid (HI.out.step (W1:=W6) (o:= .cells #[.slice mo msg.length mc] 76) (mo:=mo) (mc:=mc) hlk HB6.out (by rw [HMS.out];exact HR6.out) hg7 (by rw [HMS.out];exact hr7) (by rw [World.size_alloc];exact hn7));have hcbl:cb < (W6.alloc (.cells #[.slice mo msg.length mc] 76)).heap.size:=by have:=lt_of_block HI.out.hb;have:=HB6.out.size;simp;omega
       have hcbn:some cb≠ (Value.slice qo k qc).ownBlock:=fun e=>owns_neObj (own_at HI.out.ox.c HI.out.hq) HI.out.hb (by simp) e.symm
       have c1':W7.cell? ⟨cb,1,none⟩=some (.slice qo k qc):=(World.cell?_of_block (a:=⟨cb,1,none⟩) (hg7.block cb hcbl hcbn)).trans (((ball (w:=W6) _).cell (p:=⟨cb,1,none⟩) (Nat.lt_of_lt_of_le (lt_of_block HI.out.hb) HB6.out.size)).trans c1);have f1':W7.frozen? ⟨cb,1,none⟩=false:=(World.frozen?_of_block (a:=⟨cb,1,none⟩) (hg7.block cb hcbl hcbn)).trans (((ball (w:=W6) _).frozen (p:=⟨cb,1,none⟩) (Nat.lt_of_lt_of_le (lt_of_block HI.out.hb) HB6.out.size)).trans ((HB6.out.frozen (p:=⟨cb,1,none⟩) (lt_of_block HI.out.hb)).trans (frozen_of_row _ _ _ _ _ HI.out.hb)));clear hr7 hg7 hn7 hcbl hcbn c1 HI;go_wp2_with fail;go_roundw;case rel=>
        obtain ⟨R',hi'⟩:=HST.out;exact ⟨k+1,by go_num,by omega,Lib.hid ⟨_,_,_,_,_,_,_,_,_,hi'⟩⟩
       case measure=>simp [intOf];omega
     · have hlki:¬ (k:Int) < ch.queue.length:=by omega
       have hke:k=ch.queue.length:=by omega
       have HE:Hid (IX w hs s i ch cb ch.queue.length qo qc ys R go' gc' co cc xs wr):=Lib.hid (hke ▸ HI.out);clear hke;have n1:wr.cell? ⟨w.heap.size+2,1,none⟩=some (.slice co i cc):=(cell_of_row _ _ _ _ _ _ HE.out.ox.c.nb).trans rfl;have c0:wr.cell? ⟨cb,0,none⟩=some (.int .i64 ch.shape):=(cell_of_row _ _ _ _ _ _ HE.out.hb).trans rfl;have c1:wr.cell? ⟨cb,1,none⟩=some (.slice qo ch.queue.length qc):=(cell_of_row _ _ _ _ _ _ HE.out.hb).trans rfl;have HYR:Hid ((wr.alloc (.cells #[.int .i64 ch.shape,.slice qo ch.queue.length qc] 66)).ownsRow (w.heap.size+3) 66 2 (.slice co i cc) i xs):=Lib.hid ((own_at HE.out.ox.c HE.out.ox.hc).alloc _);have HLE:Hid (w.heap.size+3≤ (wr.alloc (.cells #[.int .i64 ch.shape,.slice qo ch.queue.length qc] 66)).heap.size):=Lib.hid (by have:=HE.out.ox.c.le;simp;omega);have hcB:=HL.out.c;clear ha hq HI ho1 hg1;go_wp2_with (at_builtin;refine wpList_append_keep rfl _ _ 31 rfl (w.heap.size+3) 66 jc (.agg #[.int .i64 0,.slice none 0 0]) 2 32 Tryz.underlying31 HJC.out.1 HJC.out.2.1 HJC.out.2.2.1 HJC.out.2.2.2 rfl (by decide) (.slice co i cc) i xs rfl HYR.out ⟨wr.heap.size,0,none⟩ 1 1 [.int .i64 ch.shape,.slice qo ch.queue.length qc] rfl rfl (arr_cells _ _ _ _ rfl) (by simp [Value.oneCell']) (by unfold maxLen;omega) (by omega) HLE.out ?_);intro co' cc' W7 hr7 hg7 hn7;have HST:=Lib.hid (OX.next (o:= .cells #[.int .i64 ch.shape,.slice qo ch.queue.length qc] 66) HE.out hlt HCH.out hg7 hr7 (by rw [World.size_alloc];exact hn7));have hnl:w.heap.size+2 < (wr.alloc (.cells #[.int .i64 ch.shape,.slice qo ch.queue.length qc] 66)).heap.size:=by have:=HLE.out;omega
       have hnn:some (w.heap.size+2)≠ (Value.slice co i cc).ownBlock:=fun e=>by have:=((own_at HE.out.ox.c HE.out.ox.hc).lt _ e.symm).1;omega
       have n1':W7.cell? ⟨w.heap.size+2,1,none⟩=some (.slice co i cc):=(World.cell?_of_block (a:=⟨w.heap.size+2,1,none⟩) (hg7.block _ hnl hnn)).trans (((ball (w:=wr) _).cell (p:=⟨w.heap.size+2,1,none⟩) (lt_of_block HE.out.ox.c.nb)).trans n1);have f1':W7.frozen? ⟨w.heap.size+2,1,none⟩=false:=(World.frozen?_of_block (a:=⟨w.heap.size+2,1,none⟩) (hg7.block _ hnl hnn)).trans (((ball (w:=wr) _).frozen (p:=⟨w.heap.size+2,1,none⟩) (lt_of_block HE.out.ox.c.nb)).trans (frozen_of_row _ _ _ _ _ HE.out.ox.c.nb));clear hr7 hg7 hn7 hnl hnn n1 c0 c1 x1 e1 HE;go_wp2_with fail;go_roundw;case rel=>
        obtain ⟨R',ho'⟩:=HST.out;exact ⟨i+1,by go_num,by omega,Lib.hid ⟨_,_,_,_,_,_,ho'⟩⟩
       case measure=>simp [intOf];omega
  have hlti:¬ (i:Int) < s.chans.length:=by omega
  have hie:i=s.chans.length:=by omega
  have HP0:=Lib.hid (PX.start (hie ▸ HO.out));clear hie HO;go_wp2_with fail;clear x1
  go_loopw [8] (fun jv W=>∃j:Nat,jv= .int .i64 j∧j≤s.procs.length∧Hid (∃R go gc co cc xs po pc ps,PX w hs s j R go gc co cc xs po pc ps W)) (fun jv _=>s.procs.length - (intOf jv).toNat)
  case atStart=>exact ⟨0,rfl,by omega,Lib.hid ⟨_,_,_,_,_,_,_,_,_,HP0.out⟩⟩
  case round=>
   clear HP0;obtain ⟨j,rfl,hj,HPX⟩:=hrel;obtain ⟨R,go',gc',co,cc,xs,po,pc,ps,hpx⟩:=HPX.out;have HP:=Lib.hid hpx;clear hpx HPX;have hj0: (0:Int)≤j:=by omega
   have x2:wr.cell? ⟨w.heap.size,2,none⟩=some (.slice hs.po s.procs.length hs.pc):=(cell_of_row _ _ _ _ _ _ HP.out.c.box).trans rfl;by_cases hlj:j < s.procs.length
   · have hlji: (j:Int) < s.procs.length:=by omega
     obtain ⟨g1,off1,ho1,hg1,ha⟩:=HP.out.c.sd.procs.cell hlj;obtain ⟨pr,hpr⟩:∃c,s.procs[j]=c:=⟨_,rfl⟩;have HPR:=Lib.hid hpr;rw [hpr] at ha;have e0:=ha.c0;have e1:=ha.c1;have e2:=ha.c2;obtain ⟨fo0,fc0,e3,hfr⟩:=ha.frame;rw [ho1] at x2;have HFR:=Lib.hid hfr;have HFL:Hid (pr.frame.length*8≤140737488355328):=Lib.hid (hpr ▸ HL.out.f _ (List.getElem_mem hlj));have HB5:Hid (Below wr.heap.size wr (wr.alloc (.cells #[.int .i64 pr.type,.int .i64 pr.loc,.int .i64 pr.prio,.slice fo0 pr.frame.length fc0] 39))):=Lib.hid (ball _);have HK5:Hid ((wr.alloc (.cells #[.int .i64 pr.type,.int .i64 pr.loc,.int .i64 pr.prio,.slice fo0 pr.frame.length fc0] 39)).heap[wr.heap.size]? =some (.cells #[.int .i64 pr.type,.int .i64 pr.loc,.int .i64 pr.prio,.slice fo0 pr.frame.length fc0] 39 (0,0))):=Lib.hid (heap_alloc_new wr _);have HQ:Hid (∀W,Below wr.heap.size wr W→W.cell? ⟨w.heap.size,2,none⟩=some (.slice (some ⟨g1,off1,none⟩) s.procs.length hs.pc)∧W.cell? ⟨g1,off1+j*4+3,none⟩=some (.slice fo0 pr.frame.length fc0)∧Row w.heap.size fo0 1 (intAt W) pr.frame):=Lib.hid fun W hb=>
      ⟨(hb.cell (p:=⟨w.heap.size,2,none⟩) (lt_of_block HP.out.c.box)).trans x2,(hb.cell (p:=⟨g1,off1+j*4+3,none⟩) (Nat.lt_of_lt_of_le hg1 HP.out.c.bel.size)).trans e3,hfr.mono fun _ _ _ hg=>intAt.below (hb.mono HP.out.c.bel.size) hg⟩
     clear ha ho1 hg1 hfr hpr;go_upto_region 18 with fail
     generalize wr.alloc (.cells #[.int .i64 pr.type,.int .i64 pr.loc,.int .i64 pr.prio,.slice fo0 pr.frame.length fc0] 39)=W5 at HB5 HK5 ⊢;obtain ⟨pb,hpb⟩:∃b,wr.heap.size=b:=⟨_,rfl⟩;have HPB:=Lib.hid hpb;rw [hpb] at HK5 ⊢;clear hpb;have p3:W5.cell? ⟨pb,3,none⟩=some (.slice fo0 pr.frame.length fc0):=(cell_of_row _ _ _ _ _ _ HK5.out).trans rfl;have f3:W5.frozen? ⟨pb,3,none⟩=false:=frozen_of_row _ _ _ _ _ HK5.out;have HB6:Hid (Below wr.heap.size wr (W5.setCell ⟨pb,3,none⟩ (.slice none 0 0))):=Lib.hid (HB5.out.setCell (by show wr.heap.size≤pb;have:=HPB.out;omega) _);have HK6:Hid ((W5.setCell ⟨pb,3,none⟩ (.slice none 0 0)).heap[pb]? =some (.cells #[.int .i64 pr.type,.int .i64 pr.loc,.int .i64 pr.prio,.slice none 0 0] 39 (0,0))):=Lib.hid (heap_setCell_same _ _ _ _ _ _ HK5.out);clear x2 e0 e1 e2 e3;go_upto_region 19 with fail
     generalize W5.setCell ⟨pb,3,none⟩ (.slice none 0 0)=W6 at HB6 HK6 ⊢;obtain ⟨x2,e3,-⟩:=HQ.out W6 HB6.out;have p3':W6.cell? ⟨pb,3,none⟩=some (.slice none 0 0):=(cell_of_row _ _ _ _ _ _ HK6.out).trans rfl;clear p3 f3;go_still_tail 8,(by kernel_rfl);change wpList _ _ _ _ _ W6.drew;have HB7:Hid (Below wr.heap.size wr W6.drew):=Lib.hid HB6.out.drew;have HK7:Hid (W6.drew.heap[pb]? =some (.cells #[.int .i64 pr.type,.int .i64 pr.loc,.int .i64 pr.prio,.slice none 0 0] 39 (0,0))):=Lib.hid HK6.out;clear x2 e3 p3' HB6 HK6;generalize W6.drew=W7 at HB7 HK7 ⊢;obtain ⟨-,-,hrow⟩:=HQ.out W7 HB7.out;have HRW:=Lib.hid hrow;clear hrow;go_wp2_with (refine wpList_append_ints rfl _ _ 23 rfl Tryz.underlying23 fo0 fc0 pr.frame rfl rfl HRW.out (Nat.le_trans HP.out.c.bel.size HB7.out.size) HFL.out ?_);intro no nc W8 hr8 hb8;have p3:W8.cell? ⟨pb,3,none⟩=some (.slice none 0 0):=(hb8.cell (p:=⟨pb,3,none⟩) (lt_of_block HK7.out)).trans ((cell_of_row _ _ _ _ _ _ HK7.out).trans rfl);have f3:W8.frozen? ⟨pb,3,none⟩=false:=(hb8.frozen (p:=⟨pb,3,none⟩) (lt_of_block HK7.out)).trans (frozen_of_row _ _ _ _ _ HK7.out);have hk8:W8.heap[pb]? =some (.cells #[.int .i64 pr.type,.int .i64 pr.loc,.int .i64 pr.prio,.slice none 0 0] 39 (0,0)):=(hb8.block _ (lt_of_block HK7.out)).trans HK7.out;have HB9:Hid (Below wr.heap.size wr (W8.setCell ⟨pb,3,none⟩ (.slice no pr.frame.length nc))):=Lib.hid ((HB7.out.trans (hb8.mono HB7.out.size)).setCell (by show wr.heap.size≤pb;have:=HPB.out;omega) _);have HK9:Hid ((W8.setCell ⟨pb,3,none⟩ (.slice no pr.frame.length nc)).heap[pb]? =some (.cells #[.int .i64 pr.type,.int .i64 pr.loc,.int .i64 pr.prio,.slice no pr.frame.length nc] 39 (0,0))):=Lib.hid (heap_setCell_same _ _ _ _ _ _ hk8);have HR9:Hid ((W8.setCell ⟨pb,3,none⟩ (.slice no pr.frame.length nc)).ownsRow wr.heap.size 2 1 (.slice no pr.frame.length nc) pr.frame.length (intsV pr.frame)):=Lib.hid (Joins.ownsRow_le (owns_set hr8 _ _ (fun e=>by have h1:=(hr8.lt _ e).1;have h2:=lt_of_block HK7.out;simp only at h1;omega)) HB7.out.size);clear hr8 hb8 hk8;go_upto_region 20 with fail
     generalize W8.setCell ⟨pb,3,none⟩ (.slice no pr.frame.length nc)=W9 at HB9 HK9 HR9 ⊢;clear p3 f3 HB7 HK7 HRW;have n2:W9.cell? ⟨w.heap.size+2,2,none⟩=some (.slice po j pc):=(HB9.out.cell (p:=⟨w.heap.size+2,2,none⟩) (lt_of_block HP.out.c.nb)).trans ((cell_of_row _ _ _ _ _ _ HP.out.c.nb).trans rfl);have p0:W9.cell? ⟨pb,0,none⟩=some (.int .i64 pr.type):=(cell_of_row _ _ _ _ _ _ HK9.out).trans rfl;have p1:W9.cell? ⟨pb,1,none⟩=some (.int .i64 pr.loc):=(cell_of_row _ _ _ _ _ _ HK9.out).trans rfl;have p2:W9.cell? ⟨pb,2,none⟩=some (.int .i64 pr.prio):=(cell_of_row _ _ _ _ _ _ HK9.out).trans rfl;have p3:W9.cell? ⟨pb,3,none⟩=some (.slice no pr.frame.length nc):=(cell_of_row _ _ _ _ _ _ HK9.out).trans rfl;have HYR:Hid ((W9.alloc (.cells #[.int .i64 pr.type,.int .i64 pr.loc,.int .i64 pr.prio,.slice no pr.frame.length nc] 39)).ownsRow (w.heap.size+3) 39 4 (.slice po j pc) j ps):=Lib.hid ((owns_below (own_at HP.out.c HP.out.hp) HB9.out).alloc _);have HLE:Hid (w.heap.size+3≤ (W9.alloc (.cells #[.int .i64 pr.type,.int .i64 pr.loc,.int .i64 pr.prio,.slice no pr.frame.length nc] 39)).heap.size):=Lib.hid (by have:=HP.out.c.le;have:=HB9.out.size;simp;omega);have hpB:=HL.out.p;go_wp2_with (at_builtin;refine wpList_append_keep rfl _ _ 32 rfl (w.heap.size+3) 39 jp (.agg #[.int .i64 0,.int .i64 0,.int .i64 0,.slice none 0 0]) 4 48 Tryz.underlying32 HJP.out.1 HJP.out.2.1 HJP.out.2.2.1 HJP.out.2.2.2 rfl (by decide) (.slice po j pc) j ps rfl HYR.out ⟨W9.heap.size,0,none⟩ 1 1 [.int .i64 pr.type,.int .i64 pr.loc,.int .i64 pr.prio,.slice no pr.frame.length nc] rfl rfl (arr_cells _ _ _ _ rfl) (by simp [Value.oneCell']) (by unfold maxLen;omega) (by omega) HLE.out ?_);intro po' pc' WA hrA hgA hnA;have HST:Hid (∃R',PX w hs s (j+1) R' go' gc' co cc xs po' pc' (ps ++ [.int .i64 pr.type,.int .i64 pr.loc,.int .i64 pr.prio,.slice no pr.frame.length nc]) (WA.setCell ⟨w.heap.size+2,2,none⟩ (.slice po' (j+1) pc'))):=Lib.hid (by
      have:=HP.out.step (W2:=W9) (o:= .cells #[.int .i64 pr.type,.int .i64 pr.loc,.int .i64 pr.prio,.slice no pr.frame.length nc] 39) (fo:=no) (fc:=nc) hlj HB9.out (by rw [HPR.out];exact HR9.out) hgA (by rw [HPR.out];exact hrA) (by rw [World.size_alloc];exact hnA);rw [HPR.out] at this;exact this)
     have hnl:w.heap.size+2 < (W9.alloc (.cells #[.int .i64 pr.type,.int .i64 pr.loc,.int .i64 pr.prio,.slice no pr.frame.length nc] 39)).heap.size:=by have:=HLE.out;omega
     have hnn:some (w.heap.size+2)≠ (Value.slice po j pc).ownBlock:=fun e=>by have:=((own_at HP.out.c HP.out.hp).lt _ e.symm).1;omega
     have n2':WA.cell? ⟨w.heap.size+2,2,none⟩=some (.slice po j pc):=(World.cell?_of_block (a:=⟨w.heap.size+2,2,none⟩) (hgA.block _ hnl hnn)).trans (((ball (w:=W9) _).cell (p:=⟨w.heap.size+2,2,none⟩) (Nat.lt_of_lt_of_le (lt_of_block HP.out.c.nb) HB9.out.size)).trans n2);have f2':WA.frozen? ⟨w.heap.size+2,2,none⟩=false:=(World.frozen?_of_block (a:=⟨w.heap.size+2,2,none⟩) (hgA.block _ hnl hnn)).trans (((ball (w:=W9) _).frozen (p:=⟨w.heap.size+2,2,none⟩) (Nat.lt_of_lt_of_le (lt_of_block HP.out.c.nb) HB9.out.size)).trans ((HB9.out.frozen (p:=⟨w.heap.size+2,2,none⟩) (lt_of_block HP.out.c.nb)).trans (frozen_of_row _ _ _ _ _ HP.out.c.nb)));clear hrA hgA hnA hnl hnn n2 p0 p1 p2 p3 HP;go_wp2_with fail;go_roundw;case rel=>
      obtain ⟨R',hp'⟩:=HST.out;exact ⟨j+1,by go_num,by omega,Lib.hid ⟨_,_,_,_,_,_,_,_,_,hp'⟩⟩
     case measure=>simp [intOf];omega
   · have hlji:¬ (j:Int) < s.procs.length:=by omega
     have hje:j=s.procs.length:=by omega
     have HE:Hid (PX w hs s s.procs.length R go' gc' co cc xs po pc ps wr):=Lib.hid (hje ▸ HP.out);clear hje HP;have p0:wr.cell? ⟨w.heap.size+2,0,none⟩=some (.slice go' s.globals.length gc'):=(cell_of_row _ _ 0 _ _ _ HE.out.c.nb).trans rfl;have p1:wr.cell? ⟨w.heap.size+2,1,none⟩=some (.slice co s.chans.length cc):=(cell_of_row _ _ 1 _ _ _ HE.out.c.nb).trans rfl;have p2:wr.cell? ⟨w.heap.size+2,2,none⟩=some (.slice po s.procs.length pc):=(cell_of_row _ _ 2 _ _ _ HE.out.c.nb).trans rfl;have p3:wr.cell? ⟨w.heap.size+2,3,none⟩=some (.int .i64 s.last):=(cell_of_row _ _ 3 _ _ _ HE.out.c.nb).trans rfl;have p4:wr.cell? ⟨w.heap.size+2,4,none⟩=some (.int .i64 s.alone):=(cell_of_row _ _ 4 _ _ _ HE.out.c.nb).trans rfl;have p5:wr.cell? ⟨w.heap.size+2,5,none⟩=some (.int .i64 s.claim):=(cell_of_row _ _ 5 _ _ _ HE.out.c.nb).trans rfl;have q0:wr.cell? ⟨w.heap.size+1,0,none⟩=some (.slice none 0 0):=(cell_of_row _ _ 0 _ _ _ HE.out.c.res).trans rfl;have q1:wr.cell? ⟨w.heap.size+1,1,none⟩=some (.slice none 0 0):=(cell_of_row _ _ 1 _ _ _ HE.out.c.res).trans rfl;have q2:wr.cell? ⟨w.heap.size+1,2,none⟩=some (.slice none 0 0):=(cell_of_row _ _ 2 _ _ _ HE.out.c.res).trans rfl;have q3:wr.cell? ⟨w.heap.size+1,3,none⟩=some (.int .i64 0):=(cell_of_row _ _ 3 _ _ _ HE.out.c.res).trans rfl;have q4:wr.cell? ⟨w.heap.size+1,4,none⟩=some (.int .i64 0):=(cell_of_row _ _ 4 _ _ _ HE.out.c.res).trans rfl;have q5:wr.cell? ⟨w.heap.size+1,5,none⟩=some (.int .i64 0):=(cell_of_row _ _ 5 _ _ _ HE.out.c.res).trans rfl;have t0:wr.frozen? ⟨w.heap.size+1,0,none⟩=false:=frozen_of_row _ _ _ _ _ HE.out.c.res;have t1:wr.frozen? ⟨w.heap.size+1,1,none⟩=false:=frozen_of_row _ _ _ _ _ HE.out.c.res;have t2:wr.frozen? ⟨w.heap.size+1,2,none⟩=false:=frozen_of_row _ _ _ _ _ HE.out.c.res;have t3:wr.frozen? ⟨w.heap.size+1,3,none⟩=false:=frozen_of_row _ _ _ _ _ HE.out.c.res;have t4:wr.frozen? ⟨w.heap.size+1,4,none⟩=false:=frozen_of_row _ _ _ _ _ HE.out.c.res;have t5:wr.frozen? ⟨w.heap.size+1,5,none⟩=false:=frozen_of_row _ _ _ _ _ HE.out.c.res;have HEN:=Lib.hid (HE.out.done (.slice go' s.globals.length gc') (.slice co s.chans.length cc) (.slice po s.procs.length pc) (.int .i64 s.last) (.int .i64 s.alone) (.int .i64 s.claim));clear hlj hj HE;go_wp2_with fail;refine bodyPost_ret (v:=sV ⟨go',gc',co,cc,po,pc⟩ s) (by simp [sV,sCells,results,Tryz.results19,go_sem,q0,q1,q2,q3,q4,q5,t0,t1,t2,t3,t4,t5]) rfl ?_;exact ⟨_,rfl,HEN.out.1,HEN.out.2⟩
end Go.Proofs.YtnoibjahliafpaaGreatDoor
