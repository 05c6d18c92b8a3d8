/- A model's rows lie below a greater bound, too; a state that may be can be copied; the state of nothing. -/
import Derived.Test.YtbhgdlfndamklaaGreatDoorS43
import Derived.Test.YtbhgdlfndamklaaGreatDoorS26
set_option linter.unusedVariables false
set_option linter.unusedSimpArgs false
namespace Go.Proofs.YtbhgdlfndamklaaGreatDoor
open Go.ChangeShapes Go.WideShapes Go.ChangeAt Go.RowKit
theorem globals_small {m:ModelD} (h:goodB m=true):m.globals.length≤128:=by
 unfold goodB checkL at h;rw [decide_eq_true_eq] at h;by_cases h1: (globalsL m).2=false
 · rw [if_pos h1] at h;simp at h
 · unfold globalsL at h1;split at h1
   · simp at h1
   · omega
theorem fits_len {t:List (Int × Bool)} {l:List Int} (h:fitsL t l=true):l.length=t.length:=by
 unfold fitsL at h;simp only [Bool.and_eq_true,decide_eq_true_eq] at h;exact h.1
theorem may_lensB {m:ModelD} {s:StateD} (hg:goodB m=true) (h:mayB m s=true):LensB s:=by
 obtain ⟨h1,h2,h3⟩:=may_globals h;have hgl:=globals_small hg;have h4:=fits_len h1;have hgf:=good_gf hg;refine ⟨by omega,by omega,by omega,fun c hc=> ?_,fun p hp=> ?_⟩
 · unfold mayB at h;simp only [Bool.and_eq_true] at h;have h5:=List.all_eq_true.1 h.1.1.2 c hc;unfold chanMayB chanFB at h5;simp only [Bool.and_eq_true] at h5;obtain ⟨-,h6⟩:=h5;split at h6
   · rename_i sh hs
     simp only [Bool.and_eq_true,decide_eq_true_eq] at h6;have h7:=hgf.shapes sh (List.mem_of_getElem? hs);unfold shapeB at h7;simp only [Bool.and_eq_true,Bool.not_eq_true',decide_eq_false_iff_not] at h7;have h8:=h7.1;have h9:=h6.1;refine ⟨by omega,fun y hy=> ?_⟩;have:=fits_len (List.all_eq_true.1 h6.2 y hy);omega
   · cases h6
 · obtain ⟨t,ht,hf,-⟩:=may_frame h hp;have h5:=fits_len hf;have h6:=hgf.procs _ (mem_zipIdx ht);unfold procB frameB frameHeadB at h6;simp only [Bool.and_eq_true,Bool.not_eq_true',decide_eq_false_iff_not] at h6;have h7:=h6.1.1.1.1;omega
def zeroS:StateD:=⟨[],[],[],0,0,0⟩
def zeroH:SH:=⟨none,0,none,0,none,0⟩
def zeroR (k:Nat × Nat × Nat):RowS:=if k.1=0 then ⟨2,1,.slice none 0 0,0,[]⟩ else if k.1=1 then ⟨91,2,.slice none 0 0,0,[]⟩ else if k.1=2 then ⟨84,4,.slice none 0 0,0,[]⟩ else rowNil
theorem zeroR_nil (k:Nat × Nat × Nat): (zeroR k).v= .slice none 0 0∧ (zeroR k).n=0∧ (zeroR k).xs= []:=by
 unfold zeroR rowNil;split
 · simp
 · split
   · simp
   · split <;> simp
theorem SO.zero (B:Nat) (w:World):SO B w zeroH zeroS:=by
 refine ⟨zeroR,⟨fun k=> ?_,fun k k' _ g hg=> ?_⟩,⟨rfl,⟨[],rfl,fun i hi=>by simp [zeroS] at hi⟩,⟨[],rfl,fun i hi=>by simp [zeroS] at hi⟩⟩⟩
 · obtain ⟨h1,h2,h3⟩:=zeroR_nil k;rw [h1,h2,h3];exact World.ownsRow_nil _ _ _ _
 · rw [(zeroR_nil k).1] at hg;cases hg
end Go.Proofs.YtbhgdlfndamklaaGreatDoor
namespace Go.Proofs.YtbhgdlfndamklaaGreatDoor
open Go.ChangeShapes Go.WideShapes Go.ChangeAt Go.RowKit
theorem run_append_block {P:Program} (w:World) (base:Nat) (t ty e:TypeId) (i:TypeInfo) (z:Value) (size bytes:Nat) (ht:P.underlying t=some (.slice e)) (hi:P.info? e=some i) (hz:i.zero=some z)
 (hsize:i.size=size) (hby:i.bytes=bytes) (hzs:z.cells.size=size) (hsz:0 < size)
 (v:Value) (n:Nat) (xs:List Value) (hown:w.ownsRow base e size v n xs)
 (a:Addr) (m c:Nat) (news:List Value) (hl:news.length=m*size) (hnews:∀j u,news[j]? =some u→w.cell? (a.add j)=some u) (h1:∀u ∈ news,u.oneCell'=true)
 (h63:n+m≤maxLen) (hbytes: (n+m)*bytes≤140737488355328) {v':Value} {w':World} (hr: (Builtin.append_ #[t,t] ty #[v,.slice (some a) m c]).run P w= .ok v' w'):v'.ownBlock=v.ownBlock∨v'.ownBlock=some w.heap.size:=by
 subst hsize;subst hby;have hsmall:n+m≤9223372036854775807:=by simp only [maxLen] at h63;omega
 rcases hown.2 with ⟨rfl,rfl⟩ | ⟨g,cap,cur,rfl,hbg,hg,hnc,hcm,hcs,htake⟩
 · have hx:xs= []:=List.eq_nil_of_length_eq_zero (by simpa using hown.1);subst hx;by_cases hm:m=0
   · subst hm;have hn:news= []:=List.eq_nil_of_length_eq_zero (by simpa using hl);subst hn;have h2: (Builtin.append_ #[t,t] ty #[.slice none 0 0,.slice (some a) 0 c]).run P w= .ok (.slice none 0 0) w:=by
      simp [Builtin.append_,run_underlying ht,sizeOf,typeInfo,hi,Builtin.lenOf,Builtin.firstCells,loadCells,loadCellsFrom]
     rw [h2] at hr;injection hr with e1 e2
     subst e1;exact .inl rfl
   · have h2:=run_append_nil (P:=P) w t ty e i z ht hi hz a m c news hl hnews (by omega) (by omega) (by have hb:=hbytes;simp only [Nat.zero_add] at hb;omega);rw [h2] at hr;injection hr with e1 e2
     subst e1;exact .inr rfl
 · by_cases hroom:n+m≤cap
   · have hfit:n*i.size+news.length≤cur.size:=by rw [hl,hcs,←Nat.add_mul];exact Nat.mul_le_mul_right _ hroom
     have h2:=run_append_room (P:=P) w t ty e i ht hi g n cap cur hg a m c news hl hnews h1 hroom hfit;rw [h2] at hr;injection hr with e1 e2
     subst e1;exact .inl rfl
   · have holds:∀j u,xs[j]? =some u→w.cell? ((⟨g,0,none⟩:Addr).add j)=some u:=hown.cells (g:=g) rfl;have h2:=run_append_grow (P:=P) w t ty e i z ht hi hz ⟨g,0,none⟩ n cap xs hown.1 holds a m c news hl hnews (by omega) (by omega) (growslice_fits (by omega) hbytes);rw [h2] at hr;injection hr with e1 e2
     subst e1;exact .inr rfl
theorem wpList_append_keep {P:Program} {w:World} {ops:Array Oper} {rest:List Oper} {o:Oper} {a:Act} {Q:Exit→Act→World→Prop} (hgd:o.guard=none) (s x:Operand) (t:TypeId)
 (ho:o.op= .call { callee:= .builtin .append,args:=#[s,x],argTypes:=#[t,t] })
 (base:Nat) (e:TypeId) (i:TypeInfo) (z:Value) (size bytes:Nat) (ht:P.underlying t=some (.slice e)) (hi:P.info? e=some i) (hz:i.zero=some z)
 (hsize:i.size=size) (hby:i.bytes=bytes) (hzs:z.cells.size=size) (hsz:0 < size)
 (v:Value) (n:Nat) (xs:List Value) (hs:a.eval s=v) (hown:w.ownsRow base e size v n xs)
 (ad:Addr) (m c:Nat) (news:List Value) (hx:a.eval x= .slice (some ad) m c) (hl:news.length=m*size) (hnews:∀j u,news[j]? =some u→w.cell? (ad.add j)=some u) (h1:∀u ∈ news,u.oneCell'=true)
 (h63:n+m≤maxLen) (hbytes: (n+m)*bytes≤140737488355328) (hbase:base≤w.heap.size)
 (h:∀o' c' w',w'.ownsRow base e size (.slice o' (n+m) c') (n+m) (xs ++ news)→w.grownBy w' v.ownBlock→ ((Value.slice o' (n+m) c').ownBlock=v.ownBlock∨ (Value.slice o' (n+m) c').ownBlock=some w.heap.size)→wpList P ops Q rest (a.put o.dst (.slice o' (n+m) c')) w'):wpList P ops Q (o :: rest) a w:=
 wpList_plain hgd fun _ hK=>by
  obtain ⟨v',w',hr,h2,h3,h4⟩:=run_append_own (P:=P) w base t o.type e i z size bytes ht hi hz hsize hby hzs hsz v n xs hown ad m c news hl hnews h1 h63 hbytes hbase;have h5:=run_append_block (P:=P) w base t o.type e i z size bytes ht hi hz hsize hby hzs hsz v n xs hown ad m c news hl hnews h1 h63 hbytes hr;obtain ⟨o',c',rfl⟩:=owns_head h2;unfold Oper.wp execOp;simp only [ho,resolve,invoke,builtin,Sem.run_bind,Sem.run_pure,Result.andThen_ok,List.map_toArray,List.map_cons,List.map_nil,hs,hx,hr];exact hK _ _ (h o' c' w' h2 h3 h5)
theorem wpList_append_ints {w:World} {ops:Array Oper} {rest:List Oper} {o:Oper} {a:Act} {Q:Exit→Act→World→Prop} (hgd:o.guard=none) (s x:Operand) (t:TypeId)
 (ho:o.op= .call { callee:= .builtin .append,args:=#[s,x],argTypes:=#[t,t] }) (ht:Tryz.prog.underlying t=some (.slice 2)) {B:Nat} (so:Option Addr) (sc:Nat) (l:List Int) (hs:a.eval s= .slice none 0 0) (hx:a.eval x= .slice so l.length sc)
 (hr:Row B so 1 (intAt w) l) (hB:B≤w.heap.size) (hlen:l.length*8≤140737488355328)
 (h:∀no nc w',w'.ownsRow w.heap.size 2 1 (.slice no l.length nc) l.length (intsV l)→Below w.heap.size w w'→wpList Tryz.prog ops Q rest (a.put o.dst (.slice no l.length nc)) w'):wpList Tryz.prog ops Q (o :: rest) a w:=by
 obtain ⟨i0,hi,hz0,hz1,hz2⟩:=held.info_parts (t:=2) (z:= .int .i64 0) (a:=1) (b:=8) (by kernel_rfl);have hsrc:=src_ints hr hB;rcases hsrc with h0 | ⟨g,off,e,hg,hc⟩
 · have hl:l= []:=List.eq_nil_of_length_eq_zero h0;subst hl;exact wpList_append_zero hgd s x t ho w.heap.size 2 i0 1 ht hi (.slice none 0 0) 0 [] hs (World.ownsRow_nil _ _ _ _) so sc hx (h none 0 w (World.ownsRow_nil _ _ _ _) (Below.refl _ _))
 · subst e;refine wpList_append_own w hgd s x t ho w.heap.size 2 i0 (.int .i64 0) 1 8 ht hi hz0 hz1 hz2 rfl (by decide) (.slice none 0 0) 0 [] hs (World.ownsRow_nil _ _ _ _) ⟨g,off,none⟩ l.length sc (intsV l) hx (ints_len l) (fun j u hj=>by rw [held.add_off];exact hc j u hj) (ints_one l) (by unfold maxLen;omega) (by omega) (Nat.le_refl _) ?_;intro v' w' ho' hg' _;obtain ⟨no,nc,rfl⟩:=owns_head ho';rw [Nat.zero_add] at ho' ⊢;exact h no nc w' (by simpa using ho') ((Below.refl _ _).grown hg' (Nat.le_refl _) (fun k hk=>by cases hk))
theorem Own.grow {B:Nat} {w w':World} {R:Nat × Nat × Nat→RowS} (h:Own B w R) (k:Nat × Nat × Nat) {v':Value} {n':Nat} {xs':List Value} (hg:w.grownBy w' (R k).v.ownBlock) (ho:w'.ownsRow B (R k).e (R k).size v' n' xs') (hn:v'.ownBlock= (R k).v.ownBlock∨v'.ownBlock=some w.heap.size):
 Own B w' (upd R k ⟨(R k).e,(R k).size,v',n',xs'⟩):=by
 have far:∀q,q≠k→∀g,v'.ownBlock=some g→ (R q).v.ownBlock≠some g:=fun q hq g h1 h2=>by
  rcases hn with e | e
  · exact h.ne q k hq g h2 (by rw [←e];exact h1)
  · have:=((h.row q).lt g h2).2;rw [e] at h1;injection h1 with h1
    omega
 refine ⟨fun q=> ?_,fun q q' hq g hgq=> ?_⟩
 · by_cases e:q=k
   · rw [e,upd_same];exact ho
   · rw [upd_ne R _ e];refine (h.row q).kept hg ?_;cases hb: (R q).v.ownBlock with
     | none=>exact .inl rfl
     | some g=>exact .inr fun e2=>h.ne q k e g hb e2.symm
 · by_cases e:q=k
   · rw [e,upd_same] at hgq;rw [upd_ne R _ (fun e'=>hq (e.trans e'.symm))];exact far q' (fun e'=>hq (e.trans e'.symm)) g hgq
   · rw [upd_ne R _ e] at hgq;by_cases e':q'=k
     · rw [e',upd_same];intro h2;exact far q e g h2 hgq
     · rw [upd_ne R _ e'];exact h.ne q q' hq g hgq
def TyOk (R:Nat × Nat × Nat→RowS):Prop:=(∀k,k≠kC→ (R k).e≠91)∧∀k,k≠kP→ (R k).e≠84
theorem TyOk.upd {R:Nat × Nat × Nat→RowS} (h:TyOk R) (k:Nat × Nat × Nat) (r:RowS) (h1:k≠kC→r.e≠91) (h2:k≠kP→r.e≠84):TyOk (upd R k r):=by
 refine ⟨fun q hq=> ?_,fun q hq=> ?_⟩
 · by_cases e:q=k
   · rw [e,upd_same];exact h1 (e ▸ hq)
   · rw [upd_ne R r e];exact h.1 q hq
 · by_cases e:q=k
   · rw [e,upd_same];exact h2 (e ▸ hq)
   · rw [upd_ne R r e];exact h.2 q hq
structure CC (w0:World) (hs:SH) (s:StateD) (R:Nat × Nat × Nat→RowS) (nv:Array Value) (W:World):Prop where
 own:Own (w0.heap.size+3) W R
 ty:TyOk R
 box:W.heap[w0.heap.size]? =some (.cells (sCells hs s) 33 (0,0))
 res:W.heap[w0.heap.size+1]? =some (.cells #[.slice none 0 0,.slice none 0 0,.slice none 0 0,.int .i64 0,.int .i64 0,.int .i64 0] 33 (0,0))
 nb:W.heap[w0.heap.size+2]? =some (.cells nv 33 (0,0))
 bel:Below w0.heap.size w0 W
 sd:SD w0.heap.size W hs s
section
variable {w0 W W1:World} {hs:SH} {s:StateD} {R:Nat × Nat × Nat→RowS} {nv:Array Value}
theorem CC.le (h:CC w0 hs s R nv W):w0.heap.size+3≤W.heap.size:=lt_of_block h.nb
theorem CC.below (h:CC w0 hs s R nv W) (hb:Below W.heap.size W W1):CC w0 hs s R nv W1:=
 ⟨h.own.below hb,h.ty,(hb.block _ (lt_of_block h.box)).trans h.box,(hb.block _ (lt_of_block h.res)).trans h.res,(hb.block _ (lt_of_block h.nb)).trans h.nb,h.bel.trans (hb.mono h.bel.size),h.sd.below (hb.mono h.bel.size)⟩
theorem CC.put (h:CC w0 hs s R nv W) (hb:Below W.heap.size W W1) (k:Nat × Nat × Nat) (r:RowS) (hr:W1.ownsRow W.heap.size r.e r.size r.v r.n r.xs) (h1:k≠kC→r.e≠91) (h2:k≠kP→r.e≠84):CC w0 hs s (upd R k r) nv W1:=
 have h':=h.below hb
 ⟨h.own.put h.le hb k r hr,h.ty.upd k r h1 h2,h'.box,h'.res,h'.nb,h'.bel,h'.sd⟩
theorem CC.grow (h:CC w0 hs s R nv W) (k:Nat × Nat × Nat) {e:TypeId} {size:Nat} {v v':Value} {n n':Nat} {xs xs':List Value} (hk:R k= ⟨e,size,v,n,xs⟩) (hg:W.grownBy W1 v.ownBlock) (ho:W1.ownsRow (w0.heap.size+3) e size v' n' xs') (hn:v'.ownBlock=v.ownBlock∨v'.ownBlock=some W.heap.size):CC w0 hs s (upd R k ⟨e,size,v',n',xs'⟩) nv W1:=by
 have hrk:=h.own.row k;have hO:Own (w0.heap.size+3) W1 (upd R k ⟨(R k).e,(R k).size,v',n',xs'⟩):=h.own.grow k (by rw [hk];exact hg) (by rw [hk];exact ho) (by rw [hk];exact hn);rw [hk] at hrk hO;dsimp only at hrk hO;have hB:Below (w0.heap.size+3) W W1:=(Below.refl _ _).grown hg h.le (fun q hq=>(hrk.lt q hq).1);have hlow:∀b,b < w0.heap.size+3→W1.heap[b]? =W.heap[b]? :=fun b hb=>hB.block b hb
 refine ⟨hO,h.ty.upd k _ (fun hk'=>by have:=h.ty.1 k hk';rw [hk] at this;exact this) (fun hk'=>by have:=h.ty.2 k hk';rw [hk] at this;exact this),(hlow _ (by omega)).trans h.box,(hlow _ (by omega)).trans h.res,(hlow _ (by omega)).trans h.nb,h.bel.trans (hB.mono (by omega)),h.sd.below (hB.mono (by omega))⟩
theorem CC.nset (h:CC w0 hs s R nv W) (i:Nat) (v:Value):CC w0 hs s R (nv.setIfInBounds i v) (W.setCell ⟨w0.heap.size+2,i,none⟩ v):=
 have hB:Below (w0.heap.size+2) W (W.setCell ⟨w0.heap.size+2,i,none⟩ v):=Below.setCell (Below.refl (w0.heap.size+2) W) (by simp) v
 ⟨h.own.low _ (Nat.lt_succ_self _) v,h.ty,(hB.block _ (by omega)).trans h.box,(hB.block _ (by omega)).trans h.res,heap_setCell_same _ _ _ _ _ _ h.nb,h.bel.trans (hB.mono (by omega)),h.sd.below (hB.mono (by omega))⟩
theorem CC.xset (h:CC w0 hs s R nv W) {b:Nat} {cs:Array Value} {T:TypeId} (hb:W.heap[b]? =some (.cells cs T (0,0))) (hge:w0.heap.size+3≤b) (hT:∀k,(R k).e≠T∨ (R k).v.ownBlock≠some b) (i:Nat) (v:Value):CC w0 hs s R nv (W.setCell ⟨b,i,none⟩ v):=
 have hB:Below b W (W.setCell ⟨b,i,none⟩ v):=Below.setCell (Below.refl b W) (by simp) v
 ⟨h.own.other _ v fun k=>(hT k).elim (owns_neObj (h.own.row k) hb) id,h.ty,(hB.block _ (by omega)).trans h.box,(hB.block _ (by omega)).trans h.res,(hB.block _ (by omega)).trans h.nb,h.bel.trans (hB.mono (by omega)),h.sd.below (hB.mono (by omega))⟩
end
end Go.Proofs.YtbhgdlfndamklaaGreatDoor
namespace Go.Proofs.YtbhgdlfndamklaaGreatDoor
open Go.ChangeShapes Go.WideShapes Go.ChangeAt Go.RowKit
def startR (k:Nat × Nat × Nat):RowS:=if k=kG then ⟨2,1,.slice none 0 0,0,[]⟩ else if k=kC then ⟨91,2,.slice none 0 0,0,[]⟩ else if k=kP then ⟨84,4,.slice none 0 0,0,[]⟩ else rowNil
theorem startR_nil (k:Nat × Nat × Nat): (startR k).v= .slice none 0 0∧ (startR k).n=0∧ (startR k).xs= []:=by
 unfold startR rowNil;split
 · simp
 · split
   · simp
   · split <;> simp
theorem startR_own (B:Nat) (w:World):Own B w startR:=by
 refine ⟨fun k=> ?_,fun k k' _ g hg=> ?_⟩
 · obtain ⟨h1,h2,h3⟩:=startR_nil k;rw [h1,h2,h3];exact World.ownsRow_nil _ _ _ _
 · rw [(startR_nil k).1] at hg;cases hg
theorem startR_ty:TyOk startR:=by
 refine ⟨fun k hk=> ?_,fun k hk=> ?_⟩
 · unfold startR;by_cases h1:k=kG
   · rw [if_pos h1];simp
   · rw [if_neg h1,if_neg hk];split <;> simp [rowNil]
 · unfold startR;by_cases h1:k=kG
   · rw [if_pos h1];simp
   · rw [if_neg h1];rw [if_neg hk];split <;> simp [rowNil]
structure OX (w0:World) (hs:SH) (s:StateD) (i:Nat) (R:Nat × Nat × Nat→RowS) (go:Option Addr) (gc:Nat) (co:Option Addr) (cc:Nat) (xs:List Value) (W:World):Prop where
 c:CC w0 hs s R #[.slice go s.globals.length gc,.slice co i cc,.slice none 0 0,.int .i64 s.last,.int .i64 s.alone,.int .i64 s.claim] W
 hg:R kG= ⟨2,1,.slice go s.globals.length gc,s.globals.length,intsV s.globals⟩
 hc:R kC= ⟨91,2,.slice co i cc,i,xs⟩
 hp:R kP= ⟨84,4,.slice none 0 0,0,[]⟩
 ok:∀j (hj:j < s.chans.length),j < i→ChOk R xs j s.chans[j]
structure IX (w0:World) (hs:SH) (s:StateD) (i:Nat) (ch:ChanD) (cb k:Nat) (qo:Option Addr) (qc:Nat) (ys:List Value) (R:Nat × Nat × Nat→RowS) (go:Option Addr) (gc:Nat) (co:Option Addr) (cc:Nat) (xs:List Value) (W:World):Prop where
 ox:OX w0 hs s i R go gc co cc xs W
 hq:R (kQ i)= ⟨92,1,.slice qo k qc,k,ys⟩
 ms:∀j (hj:j < ch.queue.length),j < k→ys[j]? =some (R (kM i j)).v∧IsInts (R (kM i j)) ch.queue[j]
 hb:W.heap[cb]? =some (.cells #[.int .i64 ch.shape,.slice qo k qc] 91 (0,0))
 ge:w0.heap.size+3≤cb
 ne: (R kC).v.ownBlock≠some cb
structure PX (w0:World) (hs:SH) (s:StateD) (j:Nat) (R:Nat × Nat × Nat→RowS) (go:Option Addr) (gc:Nat) (co:Option Addr) (cc:Nat) (xs:List Value) (po:Option Addr) (pc:Nat) (ps:List Value) (W:World):Prop where
 c:CC w0 hs s R #[.slice go s.globals.length gc,.slice co s.chans.length cc,.slice po j pc,.int .i64 s.last,.int .i64 s.alone,.int .i64 s.claim] W
 hg:R kG= ⟨2,1,.slice go s.globals.length gc,s.globals.length,intsV s.globals⟩
 hc:R kC= ⟨91,2,.slice co s.chans.length cc,s.chans.length,xs⟩
 hp:R kP= ⟨84,4,.slice po j pc,j,ps⟩
 ok:∀i (hi:i < s.chans.length),ChOk R xs i s.chans[i]
 pk:∀m (hm:m < s.procs.length),m < j→PrOk R ps m s.procs[m]
section
variable {nv:Array Value} {w0 W W1 W2 W3:World} {hs:SH} {s:StateD} {i k cb j:Nat} {ch:ChanD} {R:Nat × Nat × Nat→RowS} {go co qo po:Option Addr} {gc cc qc pc:Nat} {xs ys ps:List Value} {o:Obj}
theorem own_len (h:CC w0 hs s R nv W) {q:Nat × Nat × Nat} {e:TypeId} {size n:Nat} {v:Value} {zs:List Value} (hq:R q= ⟨e,size,v,n,zs⟩):zs.length=n*size:=by
 have h1:=h.own.row q;rw [hq] at h1;exact h1.1
theorem own_at (h:CC w0 hs s R nv W) {q:Nat × Nat × Nat} {e:TypeId} {size n:Nat} {v:Value} {zs:List Value} (hq:R q= ⟨e,size,v,n,zs⟩):W.ownsRow (w0.heap.size+3) e size v n zs:=by
 have h1:=h.own.row q;rw [hq] at h1;exact h1
theorem OX.start (h:CC w0 hs s startR #[.slice none 0 0,.slice none 0 0,.slice none 0 0,.int .i64 s.last,.int .i64 s.alone,.int .i64 s.claim] W) (hb:Below W.heap.size W W1) (hr:W1.ownsRow W.heap.size 2 1 (.slice go s.globals.length gc) s.globals.length (intsV s.globals)):
 OX w0 hs s 0 (upd startR kG ⟨2,1,.slice go s.globals.length gc,s.globals.length,intsV s.globals⟩) go gc none 0 [] (W1.setCell ⟨w0.heap.size+2,0,none⟩ (.slice go s.globals.length gc)):=by
 refine ⟨(h.put hb kG ⟨2,1,.slice go s.globals.length gc,s.globals.length,intsV s.globals⟩ hr (fun _=>by simp) (fun _=>by simp)).nset 0 (.slice go s.globals.length gc),upd_same _ _ _, ?_, ?_,fun j _ hj=>absurd hj (by omega)⟩
 · rw [upd_ne _ _ (by simp [kG,kC,kP,kQ,kM,kF] <;> omega)];rfl
 · rw [upd_ne _ _ (by simp [kG,kC,kP,kQ,kM,kF] <;> omega)];rfl
theorem IX.enter (h:OX w0 hs s i R go gc co cc xs W) (hi:i < s.chans.length):
 IX w0 hs s i s.chans[i] W.heap.size 0 none 0 [] (upd R (kQ i) ⟨92,1,.slice none 0 0,0,[]⟩) go gc co cc xs (W.alloc (.cells #[.int .i64 s.chans[i].shape,.slice none 0 0] 91)):=by
 refine ⟨⟨h.c.put (ball _) (kQ i) ⟨92,1,.slice none 0 0,0,[]⟩ (World.ownsRow_nil _ _ _ _) (fun _=>by simp) (fun _=>by simp), ?_, ?_, ?_,fun j hj hji=> ?_⟩,upd_same _ _ _,fun j _ hj=>absurd hj (by omega),heap_alloc_new _ _,h.c.le, ?_⟩
 · rw [upd_ne _ _ (by simp [kG,kC,kP,kQ,kM,kF] <;> omega)];exact h.hg
 · rw [upd_ne _ _ (by simp [kG,kC,kP,kQ,kM,kF] <;> omega)];exact h.hc
 · rw [upd_ne _ _ (by simp [kG,kC,kP,kQ,kM,kF] <;> omega)];exact h.hp
 · exact (h.ok j hj hji).of (upd_ne _ _ (by simp [kG,kC,kP,kQ,kM,kF] <;> omega)) (fun m=>upd_ne _ _ (by simp [kG,kC,kP,kQ,kM,kF] <;> omega)) rfl rfl
 · rw [upd_ne _ _ (by simp [kG,kC,kP,kQ,kM,kF] <;> omega)];intro e;have:=((h.c.own.row kC).lt _ e).2;omega
theorem IX.step (h:IX w0 hs s i ch cb k qo qc ys R go gc co cc xs W) (hk:k < ch.queue.length) {mo:Option Addr} {mc:Nat} (hb1:Below W.heap.size W W1) (hr1:W1.ownsRow W.heap.size 2 1 (.slice mo ch.queue[k].length mc) ch.queue[k].length (intsV ch.queue[k]))
 {qo':Option Addr} {qc':Nat} (hg2: (W1.alloc o).grownBy W2 (Value.slice qo k qc).ownBlock) (hr2:W2.ownsRow (w0.heap.size+3) 92 1 (.slice qo' (k+1) qc') (k+1) (ys ++ [.slice mo ch.queue[k].length mc]))
 (hn2: (Value.slice qo' (k+1) qc').ownBlock= (Value.slice qo k qc).ownBlock∨ (Value.slice qo' (k+1) qc').ownBlock=some (W1.alloc o).heap.size):
 ∃R',IX w0 hs s i ch cb (k+1) qo' qc' (ys ++ [.slice mo ch.queue[k].length mc]) R' go gc co cc xs (W2.setCell ⟨cb,1,none⟩ (.slice qo' (k+1) qc')):=by
 have c1:=h.ox.c.put hb1 (kM i k) ⟨2,1,.slice mo ch.queue[k].length mc,ch.queue[k].length,intsV ch.queue[k]⟩ hr1 (fun _=>by simp) (fun _=>by simp);have c1':=c1.below (ball o);have hq1:upd R (kM i k) ⟨2,1,.slice mo ch.queue[k].length mc,ch.queue[k].length,intsV ch.queue[k]⟩ (kQ i)= ⟨92,1,.slice qo k qc,k,ys⟩:=by
  rw [upd_ne _ _ (by simp [kG,kC,kP,kQ,kM,kF] <;> omega)];exact h.hq
 have c2:=c1'.grow (kQ i) hq1 hg2 hr2 hn2;have hcb:cb < W.heap.size:=lt_of_block h.hb;have hbq: (Value.slice qo k qc).ownBlock≠some cb:=owns_neObj (own_at h.ox.c h.hq) h.hb (by simp);have hb2:W2.heap[cb]? =some (.cells #[.int .i64 ch.shape,.slice qo k qc] 91 (0,0)):=
  (hg2.block cb (by have:=hb1.size;simp;omega) (fun e=>hbq e.symm)).trans (((ball o).block cb (Nat.lt_of_lt_of_le hcb hb1.size)).trans ((hb1.block cb hcb).trans h.hb))
 have hkc: (upd (upd R (kM i k) ⟨2,1,.slice mo ch.queue[k].length mc,ch.queue[k].length,intsV ch.queue[k]⟩) (kQ i) ⟨92,1,.slice qo' (k+1) qc',k+1,ys ++ [.slice mo ch.queue[k].length mc]⟩) kC=R kC:=by
  rw [upd_ne _ _ (by simp [kG,kC,kP,kQ,kM,kF] <;> omega),upd_ne _ _ (by simp [kG,kC,kP,kQ,kM,kF] <;> omega)]
 have c3:=c2.xset hb2 h.ge (fun q=>by
  by_cases e:q=kC
  · exact .inr (by rw [e,hkc];exact h.ne)
  · exact .inl (c2.ty.1 q e)) 1 (.slice qo' (k+1) qc')
 have hyl:ys.length=k:=by have:=own_len h.ox.c h.hq;omega
 refine ⟨_,⟨c3, ?_,hkc.trans h.ox.hc, ?_,fun j hj hji=> ?_⟩,upd_same _ _ _,fun j hj hjk=> ?_,heap_setCell_same _ _ _ _ _ _ hb2,h.ge,by rw [hkc];exact h.ne⟩
 · rw [upd_ne _ _ (by simp [kG,kC,kP,kQ,kM,kF] <;> omega),upd_ne _ _ (by simp [kG,kC,kP,kQ,kM,kF] <;> omega)];exact h.ox.hg
 · rw [upd_ne _ _ (by simp [kG,kC,kP,kQ,kM,kF] <;> omega),upd_ne _ _ (by simp [kG,kC,kP,kQ,kM,kF] <;> omega)];exact h.ox.hp
 · refine (h.ox.ok j hj hji).of ?_ (fun m=> ?_) rfl rfl
   · rw [upd_ne _ _ (by simp [kG,kC,kP,kQ,kM,kF] <;> omega),upd_ne _ _ (by simp [kG,kC,kP,kQ,kM,kF] <;> omega)]
   · rw [upd_ne _ _ (by simp [kG,kC,kP,kQ,kM,kF] <;> omega),upd_ne _ _ (by simp [kG,kC,kP,kQ,kM,kF] <;> omega)]
 · rw [upd_ne _ _ (by simp [kG,kC,kP,kQ,kM,kF] <;> omega)];by_cases e:j=k
   · subst e;rw [upd_same];exact ⟨by rw [List.getElem?_append_right (by omega),hyl];simp,_,_,rfl⟩
   · rw [upd_ne _ _ (by simp [kG,kC,kP,kQ,kM,kF] <;> omega),List.getElem?_append_left (by omega)];exact h.ms j hj (by omega)
theorem OX.next (h:IX w0 hs s i ch cb ch.queue.length qo qc ys R go gc co cc xs W) (hi:i < s.chans.length) (hch:s.chans[i]=ch) {co':Option Addr} {cc':Nat} (hg2: (W.alloc o).grownBy W2 (Value.slice co i cc).ownBlock)
 (hr2:W2.ownsRow (w0.heap.size+3) 91 2 (.slice co' (i+1) cc') (i+1) (xs ++ [.int .i64 ch.shape,.slice qo ch.queue.length qc])) (hn2: (Value.slice co' (i+1) cc').ownBlock= (Value.slice co i cc).ownBlock∨ (Value.slice co' (i+1) cc').ownBlock=some (W.alloc o).heap.size):
 ∃R',OX w0 hs s (i+1) R' go gc co' cc' (xs ++ [.int .i64 ch.shape,.slice qo ch.queue.length qc]) (W2.setCell ⟨w0.heap.size+2,1,none⟩ (.slice co' (i+1) cc')):=by
 have c2:=(h.ox.c.below (ball o)).grow kC h.ox.hc hg2 hr2 hn2;have hxl:xs.length=i*2:=own_len h.ox.c h.ox.hc;refine ⟨_,c2.nset 1 (.slice co' (i+1) cc'), ?_,upd_same _ _ _, ?_,fun j hj hji=> ?_⟩
 · rw [upd_ne _ _ (by simp [kG,kC,kP,kQ,kM,kF] <;> omega)];exact h.ox.hg
 · rw [upd_ne _ _ (by simp [kG,kC,kP,kQ,kM,kF] <;> omega)];exact h.ox.hp
 · by_cases e:j=i
   · subst e;refine ⟨?_, ?_,qo,qc,ys, ?_,fun m hm=> ?_⟩
     · rw [List.getElem?_append_right (by omega),hxl,hch];simp
     · rw [List.getElem?_append_right (by omega),hxl,upd_ne _ _ (by simp [kG,kC,kP,kQ,kM,kF] <;> omega),h.hq];simp
     · rw [upd_ne _ _ (by simp [kG,kC,kP,kQ,kM,kF] <;> omega),h.hq,hch]
     · rw [upd_ne _ _ (by simp [kG,kC,kP,kQ,kM,kF] <;> omega)];have hm':m < ch.queue.length:=by rw [←hch];exact hm
       have h2:=h.ms m hm' hm';simp only [hch];exact h2
   · exact (h.ox.ok j hj (by omega)).of (upd_ne _ _ (by simp [kG,kC,kP,kQ,kM,kF] <;> omega)) (fun m=>upd_ne _ _ (by simp [kG,kC,kP,kQ,kM,kF] <;> omega)) (List.getElem?_append_left (by omega)) (List.getElem?_append_left (by omega))
theorem PX.start (h:OX w0 hs s s.chans.length R go gc co cc xs W):PX w0 hs s 0 R go gc co cc xs none 0 [] W:=⟨h.c,h.hg,h.hc,h.hp,fun i hi=>h.ok i hi hi,fun m _ hm=>absurd hm (by omega)⟩
theorem PX.step (h:PX w0 hs s j R go gc co cc xs po pc ps W) (hj:j < s.procs.length) {fo:Option Addr} {fc:Nat} (hb:Below W.heap.size W W2) (hr:W2.ownsRow W.heap.size 2 1 (.slice fo s.procs[j].frame.length fc) s.procs[j].frame.length (intsV s.procs[j].frame))
 {po':Option Addr} {pc':Nat} (hg3: (W2.alloc o).grownBy W3 (Value.slice po j pc).ownBlock) (hr3:W3.ownsRow (w0.heap.size+3) 84 4 (.slice po' (j+1) pc') (j+1) (ps ++ [.int .i64 s.procs[j].type,.int .i64 s.procs[j].loc,.int .i64 s.procs[j].prio,.slice fo s.procs[j].frame.length fc]))
 (hn3: (Value.slice po' (j+1) pc').ownBlock= (Value.slice po j pc).ownBlock∨ (Value.slice po' (j+1) pc').ownBlock=some (W2.alloc o).heap.size):
 ∃R',PX w0 hs s (j+1) R' go gc co cc xs po' pc' (ps ++ [.int .i64 s.procs[j].type,.int .i64 s.procs[j].loc,.int .i64 s.procs[j].prio,.slice fo s.procs[j].frame.length fc]) (W3.setCell ⟨w0.heap.size+2,2,none⟩ (.slice po' (j+1) pc')):=by
 have c1:=(h.c.put hb (kF j) ⟨2,1,.slice fo s.procs[j].frame.length fc,s.procs[j].frame.length,intsV s.procs[j].frame⟩ hr (fun _=>by simp) (fun _=>by simp)).below (ball o);have hp1:upd R (kF j) ⟨2,1,.slice fo s.procs[j].frame.length fc,s.procs[j].frame.length,intsV s.procs[j].frame⟩ kP= ⟨84,4,.slice po j pc,j,ps⟩:=by
  rw [upd_ne _ _ (by simp [kG,kC,kP,kQ,kM,kF] <;> omega)];exact h.hp
 have c2:=c1.grow kP hp1 hg3 hr3 hn3;have hpl:ps.length=j*4:=own_len h.c h.hp;refine ⟨_,c2.nset 2 (.slice po' (j+1) pc'), ?_, ?_,upd_same _ _ _,fun i hi=> ?_,fun m hm hmj=> ?_⟩
 · rw [upd_ne _ _ (by simp [kG,kC,kP,kQ,kM,kF] <;> omega),upd_ne _ _ (by simp [kG,kC,kP,kQ,kM,kF] <;> omega)];exact h.hg
 · rw [upd_ne _ _ (by simp [kG,kC,kP,kQ,kM,kF] <;> omega),upd_ne _ _ (by simp [kG,kC,kP,kQ,kM,kF] <;> omega)];exact h.hc
 · refine (h.ok i hi).of ?_ (fun m=> ?_) rfl rfl
   · rw [upd_ne _ _ (by simp [kG,kC,kP,kQ,kM,kF] <;> omega),upd_ne _ _ (by simp [kG,kC,kP,kQ,kM,kF] <;> omega)]
   · rw [upd_ne _ _ (by simp [kG,kC,kP,kQ,kM,kF] <;> omega),upd_ne _ _ (by simp [kG,kC,kP,kQ,kM,kF] <;> omega)]
 · by_cases e:m=j
   · subst e;have hf:upd (upd R (kF m) ⟨2,1,.slice fo s.procs[m].frame.length fc,s.procs[m].frame.length,intsV s.procs[m].frame⟩) kP ⟨84,4,.slice po' (m+1) pc',m+1,ps ++ [.int .i64 s.procs[m].type,.int .i64 s.procs[m].loc,.int .i64 s.procs[m].prio,.slice fo s.procs[m].frame.length fc]⟩ (kF m)= ⟨2,1,.slice fo s.procs[m].frame.length fc,s.procs[m].frame.length,intsV s.procs[m].frame⟩:=by
      rw [upd_ne _ _ (by simp [kG,kC,kP,kQ,kM,kF] <;> omega),upd_same]
     refine ⟨?_, ?_, ?_, ?_,by rw [hf];exact ⟨_,_,rfl⟩⟩
     · rw [List.getElem?_append_right (by omega),hpl];simp
     · rw [List.getElem?_append_right (by omega),hpl];simp
     · rw [List.getElem?_append_right (by omega),hpl];simp
     · rw [List.getElem?_append_right (by omega),hpl,hf];simp
   · refine (h.pk m hm (by omega)).of ?_ (List.getElem?_append_left (by omega)) (List.getElem?_append_left (by omega)) (List.getElem?_append_left (by omega)) (List.getElem?_append_left (by omega));rw [upd_ne _ _ (by simp [kG,kC,kP,kQ,kM,kF] <;> omega),upd_ne _ _ (by simp [kG,kC,kP,kQ,kM,kF] <;> omega)]
theorem PX.done (h:PX w0 hs s s.procs.length R go gc co cc xs po pc ps W) (v0 v1 v2 v3 v4 v5:Value):
 SO w0.heap.size ((((((W.setCell ⟨w0.heap.size+1,0,none⟩ v0).setCell ⟨w0.heap.size+1,1,none⟩ v1).setCell ⟨w0.heap.size+1,2,none⟩ v2).setCell ⟨w0.heap.size+1,3,none⟩ v3).setCell ⟨w0.heap.size+1,4,none⟩ v4).setCell ⟨w0.heap.size+1,5,none⟩ v5) ⟨go,gc,co,cc,po,pc⟩ s∧
 Below w0.heap.size w0 ((((((W.setCell ⟨w0.heap.size+1,0,none⟩ v0).setCell ⟨w0.heap.size+1,1,none⟩ v1).setCell ⟨w0.heap.size+1,2,none⟩ v2).setCell ⟨w0.heap.size+1,3,none⟩ v3).setCell ⟨w0.heap.size+1,4,none⟩ v4).setCell ⟨w0.heap.size+1,5,none⟩ v5):=by
 have hne:∀k,(R k).v.ownBlock≠some (w0.heap.size+1):=fun k e=>by have:=((h.c.own.row k).lt _ e).1;omega
 refine ⟨⟨R,((((((h.c.own.other _ _ hne).other _ _ hne).other _ _ hne).other _ _ hne).other _ _ hne).other _ _ hne).mono (by omega),h.hg,⟨xs,h.hc,fun i hi=>h.ok i hi⟩,⟨ps,h.hp,fun m hm=>h.pk m hm hm⟩⟩, ?_⟩;exact (((((h.c.bel.setCell (by simp) _).setCell (by simp) _).setCell (by simp) _).setCell (by simp) _).setCell (by simp) _).setCell (by simp) _
end
end Go.Proofs.YtbhgdlfndamklaaGreatDoor
