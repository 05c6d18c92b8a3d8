/- Rows of one's own that grow by append; a state that is built anew, row by row. -/
import Derived.Test.YthfldokfnjpkmaaGreatDoorM24
import Derived.Test.YthfldokfnjpkmaaGreatDoorM27
import Derived.Laws.AppendOwn
set_option linter.unusedVariables false
set_option linter.unusedSimpArgs false
namespace Go.Proofs.YthfldokfnjpkmaaGreatDoor
open Go.ChangeShapes Go.WideShapes Go.ChangeAt Go.RowKit
theorem run_append_block {P:Program} (w:World) (base:Nat) (t ty e:TypeId) (i:TypeInfo) (z:Value) (size bytes:Nat) (ht:P.underlying t=some (.slice e)) (hi:P.info? e=some i) (hz:i.zero=some z)
 (hsize:i.size=size) (hby:i.bytes=bytes) (hzs:z.cells.size=size) (hsz:0 < size)
 (v:Value) (n:Nat) (xs:List Value) (hown:w.ownsRow base e size v n xs)
 (a:Addr) (m c:Nat) (news:List Value) (hl:news.length=m*size) (hnews:∀j u,news[j]? =some u→w.cell? (a.add j)=some u) (h1:∀u ∈ news,u.oneCell'=true)
 (h63:n+m≤maxLen) (hbytes: (n+m)*bytes≤140737488355328) {v':Value} {w':World} (hr: (Builtin.append_ #[t,t] ty #[v,.slice (some a) m c]).run P w= .ok v' w'):v'.ownBlock=v.ownBlock∨v'.ownBlock=some w.heap.size:=by
 subst hsize;subst hby;have hsmall:n+m≤9223372036854775807:=by simp only [maxLen] at h63;omega
 rcases hown.2 with ⟨rfl,rfl⟩ | ⟨g,cap,cur,rfl,hbg,hg,hnc,hcm,hcs,htake⟩
 · have hx:xs= []:=List.eq_nil_of_length_eq_zero (by simpa using hown.1);subst hx;by_cases hm:m=0
   · subst hm;have hn:news= []:=List.eq_nil_of_length_eq_zero (by simpa using hl);subst hn;have h2: (Builtin.append_ #[t,t] ty #[.slice none 0 0,.slice (some a) 0 c]).run P w= .ok (.slice none 0 0) w:=by
      simp [Builtin.append_,run_underlying ht,sizeOf,typeInfo,hi,Builtin.lenOf,Builtin.firstCells,loadCells,loadCellsFrom]
     rw [h2] at hr;injection hr with e1 e2
     subst e1;exact .inl rfl
   · have h2:=run_append_nil (P:=P) w t ty e i z ht hi hz a m c news hl hnews (by omega) (by omega) (by have hb:=hbytes;simp only [Nat.zero_add] at hb;omega);rw [h2] at hr;injection hr with e1 e2
     subst e1;exact .inr rfl
 · by_cases hroom:n+m≤cap
   · have hfit:n*i.size+news.length≤cur.size:=by rw [hl,hcs,←Nat.add_mul];exact Nat.mul_le_mul_right _ hroom
     have h2:=run_append_room (P:=P) w t ty e i ht hi g n cap cur hg a m c news hl hnews h1 hroom hfit;rw [h2] at hr;injection hr with e1 e2
     subst e1;exact .inl rfl
   · have holds:∀j u,xs[j]? =some u→w.cell? ((⟨g,0,none⟩:Addr).add j)=some u:=hown.cells (g:=g) rfl;have h2:=run_append_grow (P:=P) w t ty e i z ht hi hz ⟨g,0,none⟩ n cap xs hown.1 holds a m c news hl hnews (by omega) (by omega) (growslice_fits (by omega) hbytes);rw [h2] at hr;injection hr with e1 e2
     subst e1;exact .inr rfl
theorem wpList_append_keep {P:Program} {w:World} {ops:Array Oper} {rest:List Oper} {o:Oper} {a:Act} {Q:Exit→Act→World→Prop} (hgd:o.guard=none) (s x:Operand) (t:TypeId)
 (ho:o.op= .call { callee:= .builtin .append,args:=#[s,x],argTypes:=#[t,t] })
 (base:Nat) (e:TypeId) (i:TypeInfo) (z:Value) (size bytes:Nat) (ht:P.underlying t=some (.slice e)) (hi:P.info? e=some i) (hz:i.zero=some z)
 (hsize:i.size=size) (hby:i.bytes=bytes) (hzs:z.cells.size=size) (hsz:0 < size)
 (v:Value) (n:Nat) (xs:List Value) (hs:a.eval s=v) (hown:w.ownsRow base e size v n xs)
 (ad:Addr) (m c:Nat) (news:List Value) (hx:a.eval x= .slice (some ad) m c) (hl:news.length=m*size) (hnews:∀j u,news[j]? =some u→w.cell? (ad.add j)=some u) (h1:∀u ∈ news,u.oneCell'=true)
 (h63:n+m≤maxLen) (hbytes: (n+m)*bytes≤140737488355328) (hbase:base≤w.heap.size)
 (h:∀o' c' w',w'.ownsRow base e size (.slice o' (n+m) c') (n+m) (xs ++ news)→w.grownBy w' v.ownBlock→ ((Value.slice o' (n+m) c').ownBlock=v.ownBlock∨ (Value.slice o' (n+m) c').ownBlock=some w.heap.size)→wpList P ops Q rest (a.put o.dst (.slice o' (n+m) c')) w'):wpList P ops Q (o :: rest) a w:=
 wpList_plain hgd fun _ hK=>by
  obtain ⟨v',w',hr,h2,h3,h4⟩:=run_append_own (P:=P) w base t o.type e i z size bytes ht hi hz hsize hby hzs hsz v n xs hown ad m c news hl hnews h1 h63 hbytes hbase;have h5:=run_append_block (P:=P) w base t o.type e i z size bytes ht hi hz hsize hby hzs hsz v n xs hown ad m c news hl hnews h1 h63 hbytes hr;obtain ⟨o',c',rfl⟩:=owns_head h2;unfold Oper.wp execOp;simp only [ho,resolve,invoke,builtin,Sem.run_bind,Sem.run_pure,Result.andThen_ok,List.map_toArray,List.map_cons,List.map_nil,hs,hx,hr];exact hK _ _ (h o' c' w' h2 h3 h5)
theorem wpList_append_ints {w:World} {ops:Array Oper} {rest:List Oper} {o:Oper} {a:Act} {Q:Exit→Act→World→Prop} (hgd:o.guard=none) (s x:Operand) (t:TypeId)
 (ho:o.op= .call { callee:= .builtin .append,args:=#[s,x],argTypes:=#[t,t] }) (ht:Tryz.prog.underlying t=some (.slice 2)) {B:Nat} (so:Option Addr) (sc:Nat) (l:List Int) (hs:a.eval s= .slice none 0 0) (hx:a.eval x= .slice so l.length sc)
 (hr:Row B so 1 (intAt w) l) (hB:B≤w.heap.size) (hlen:l.length*8≤140737488355328)
 (h:∀no nc w',w'.ownsRow w.heap.size 2 1 (.slice no l.length nc) l.length (intsV l)→Below w.heap.size w w'→wpList Tryz.prog ops Q rest (a.put o.dst (.slice no l.length nc)) w'):wpList Tryz.prog ops Q (o :: rest) a w:=by
 obtain ⟨i0,hi,hz0,hz1,hz2⟩:=held.info_parts (t:=2) (z:= .int .i64 0) (a:=1) (b:=8) (by kernel_rfl);have hsrc:=src_ints hr hB;rcases hsrc with h0 | ⟨g,off,e,hg,hc⟩
 · have hl:l= []:=List.eq_nil_of_length_eq_zero h0;subst hl;exact wpList_append_zero hgd s x t ho w.heap.size 2 i0 1 ht hi (.slice none 0 0) 0 [] hs (World.ownsRow_nil _ _ _ _) so sc hx (h none 0 w (World.ownsRow_nil _ _ _ _) (Below.refl _ _))
 · subst e;refine wpList_append_own w hgd s x t ho w.heap.size 2 i0 (.int .i64 0) 1 8 ht hi hz0 hz1 hz2 rfl (by decide) (.slice none 0 0) 0 [] hs (World.ownsRow_nil _ _ _ _) ⟨g,off,none⟩ l.length sc (intsV l) hx (ints_len l) (fun j u hj=>by rw [held.add_off];exact hc j u hj) (ints_one l) (by unfold maxLen;omega) (by omega) (Nat.le_refl _) ?_;intro v' w' ho' hg' _;obtain ⟨no,nc,rfl⟩:=owns_head ho';rw [Nat.zero_add] at ho' ⊢;exact h no nc w' (by simpa using ho') ((Below.refl _ _).grown hg' (Nat.le_refl _) (fun k hk=>by cases hk))
theorem Own.grow {B:Nat} {w w':World} {R:Nat × Nat × Nat→RowS} (h:Own B w R) (k:Nat × Nat × Nat) {v':Value} {n':Nat} {xs':List Value} (hg:w.grownBy w' (R k).v.ownBlock) (ho:w'.ownsRow B (R k).e (R k).size v' n' xs') (hn:v'.ownBlock= (R k).v.ownBlock∨v'.ownBlock=some w.heap.size):
 Own B w' (upd R k ⟨(R k).e,(R k).size,v',n',xs'⟩):=by
 have far:∀q,q≠k→∀g,v'.ownBlock=some g→ (R q).v.ownBlock≠some g:=fun q hq g h1 h2=>by
  rcases hn with e | e
  · exact h.ne q k hq g h2 (by rw [←e];exact h1)
  · have:=((h.row q).lt g h2).2;rw [e] at h1;injection h1 with h1
    omega
 refine ⟨fun q=> ?_,fun q q' hq g hgq=> ?_⟩
 · by_cases e:q=k
   · rw [e,upd_same];exact ho
   · rw [upd_ne R _ e];refine (h.row q).kept hg ?_;cases hb: (R q).v.ownBlock with
     | none=>exact .inl rfl
     | some g=>exact .inr fun e2=>h.ne q k e g hb e2.symm
 · by_cases e:q=k
   · rw [e,upd_same] at hgq;rw [upd_ne R _ (fun e'=>hq (e.trans e'.symm))];exact far q' (fun e'=>hq (e.trans e'.symm)) g hgq
   · rw [upd_ne R _ e] at hgq;by_cases e':q'=k
     · rw [e',upd_same];intro h2;exact far q e g h2 hgq
     · rw [upd_ne R _ e'];exact h.ne q q' hq g hgq
def TyOk (R:Nat × Nat × Nat→RowS):Prop:=(∀k,k≠kC→ (R k).e≠81)∧∀k,k≠kP→ (R k).e≠60
theorem TyOk.upd {R:Nat × Nat × Nat→RowS} (h:TyOk R) (k:Nat × Nat × Nat) (r:RowS) (h1:k≠kC→r.e≠81) (h2:k≠kP→r.e≠60):TyOk (upd R k r):=by
 refine ⟨fun q hq=> ?_,fun q hq=> ?_⟩
 · by_cases e:q=k
   · rw [e,upd_same];exact h1 (e ▸ hq)
   · rw [upd_ne R r e];exact h.1 q hq
 · by_cases e:q=k
   · rw [e,upd_same];exact h2 (e ▸ hq)
   · rw [upd_ne R r e];exact h.2 q hq
structure CC (w0:World) (hs:SH) (s:StateD) (R:Nat × Nat × Nat→RowS) (nv:Array Value) (W:World):Prop where
 own:Own (w0.heap.size+3) W R
 ty:TyOk R
 box:W.heap[w0.heap.size]? =some (.cells (sCells hs s) 33 (0,0))
 res:W.heap[w0.heap.size+1]? =some (.cells #[.slice none 0 0,.slice none 0 0,.slice none 0 0,.int .i64 0,.int .i64 0,.int .i64 0] 33 (0,0))
 nb:W.heap[w0.heap.size+2]? =some (.cells nv 33 (0,0))
 bel:Below w0.heap.size w0 W
 sd:SD w0.heap.size W hs s
section
variable {w0 W W1:World} {hs:SH} {s:StateD} {R:Nat × Nat × Nat→RowS} {nv:Array Value}
theorem CC.le (h:CC w0 hs s R nv W):w0.heap.size+3≤W.heap.size:=lt_of_block h.nb
theorem CC.below (h:CC w0 hs s R nv W) (hb:Below W.heap.size W W1):CC w0 hs s R nv W1:=
 ⟨h.own.below hb,h.ty,(hb.block _ (lt_of_block h.box)).trans h.box,(hb.block _ (lt_of_block h.res)).trans h.res,(hb.block _ (lt_of_block h.nb)).trans h.nb,h.bel.trans (hb.mono h.bel.size),h.sd.below (hb.mono h.bel.size)⟩
theorem CC.put (h:CC w0 hs s R nv W) (hb:Below W.heap.size W W1) (k:Nat × Nat × Nat) (r:RowS) (hr:W1.ownsRow W.heap.size r.e r.size r.v r.n r.xs) (h1:k≠kC→r.e≠81) (h2:k≠kP→r.e≠60):CC w0 hs s (upd R k r) nv W1:=
 have h':=h.below hb
 ⟨h.own.put h.le hb k r hr,h.ty.upd k r h1 h2,h'.box,h'.res,h'.nb,h'.bel,h'.sd⟩
theorem CC.grow (h:CC w0 hs s R nv W) (k:Nat × Nat × Nat) {e:TypeId} {size:Nat} {v v':Value} {n n':Nat} {xs xs':List Value} (hk:R k= ⟨e,size,v,n,xs⟩) (hg:W.grownBy W1 v.ownBlock) (ho:W1.ownsRow (w0.heap.size+3) e size v' n' xs') (hn:v'.ownBlock=v.ownBlock∨v'.ownBlock=some W.heap.size):CC w0 hs s (upd R k ⟨e,size,v',n',xs'⟩) nv W1:=by
 have hrk:=h.own.row k;have hO:Own (w0.heap.size+3) W1 (upd R k ⟨(R k).e,(R k).size,v',n',xs'⟩):=h.own.grow k (by rw [hk];exact hg) (by rw [hk];exact ho) (by rw [hk];exact hn);rw [hk] at hrk hO;dsimp only at hrk hO;have hB:Below (w0.heap.size+3) W W1:=(Below.refl _ _).grown hg h.le (fun q hq=>(hrk.lt q hq).1);have hlow:∀b,b < w0.heap.size+3→W1.heap[b]? =W.heap[b]? :=fun b hb=>hB.block b hb
 refine ⟨hO,h.ty.upd k _ (fun hk'=>by have:=h.ty.1 k hk';rw [hk] at this;exact this) (fun hk'=>by have:=h.ty.2 k hk';rw [hk] at this;exact this),(hlow _ (by omega)).trans h.box,(hlow _ (by omega)).trans h.res,(hlow _ (by omega)).trans h.nb,h.bel.trans (hB.mono (by omega)),h.sd.below (hB.mono (by omega))⟩
theorem CC.nset (h:CC w0 hs s R nv W) (i:Nat) (v:Value):CC w0 hs s R (nv.setIfInBounds i v) (W.setCell ⟨w0.heap.size+2,i,none⟩ v):=
 have hB:Below (w0.heap.size+2) W (W.setCell ⟨w0.heap.size+2,i,none⟩ v):=Below.setCell (Below.refl (w0.heap.size+2) W) (by simp) v
 ⟨h.own.low _ (Nat.lt_succ_self _) v,h.ty,(hB.block _ (by omega)).trans h.box,(hB.block _ (by omega)).trans h.res,heap_setCell_same _ _ _ _ _ _ h.nb,h.bel.trans (hB.mono (by omega)),h.sd.below (hB.mono (by omega))⟩
theorem CC.xset (h:CC w0 hs s R nv W) {b:Nat} {cs:Array Value} {T:TypeId} (hb:W.heap[b]? =some (.cells cs T (0,0))) (hge:w0.heap.size+3≤b) (hT:∀k,(R k).e≠T∨ (R k).v.ownBlock≠some b) (i:Nat) (v:Value):CC w0 hs s R nv (W.setCell ⟨b,i,none⟩ v):=
 have hB:Below b W (W.setCell ⟨b,i,none⟩ v):=Below.setCell (Below.refl b W) (by simp) v
 ⟨h.own.other _ v fun k=>(hT k).elim (owns_neObj (h.own.row k) hb) id,h.ty,(hB.block _ (by omega)).trans h.box,(hB.block _ (by omega)).trans h.res,(hB.block _ (by omega)).trans h.nb,h.bel.trans (hB.mono (by omega)),h.sd.below (hB.mono (by omega))⟩
end
end Go.Proofs.YthfldokfnjpkmaaGreatDoor
namespace Go.Proofs.YthfldokfnjpkmaaGreatDoor
open Go.ChangeShapes Go.WideShapes Go.ChangeAt Go.RowKit
theorem step_append_keep {P:Program} {w:World} {ops:Array Oper} {o:Oper} {a:Act} {K:Act→World→Prop} {Q:Exit→Act→World→Prop} {E:Prop} (hgd:o.guard=none) (s x:Operand) (t:TypeId)
 (ho:o.op= .call { callee:= .builtin .append,args:=#[s,x],argTypes:=#[t,t] })
 (base:Nat) (e:TypeId) (i:TypeInfo) (z:Value) (size bytes:Nat) (ht:P.underlying t=some (.slice e)) (hi:P.info? e=some i) (hz:i.zero=some z)
 (hsize:i.size=size) (hby:i.bytes=bytes) (hzs:z.cells.size=size) (hsz:0 < size)
 (v:Value) (n:Nat) (xs:List Value) (hs:a.eval s=v) (hown:w.ownsRow base e size v n xs)
 (ad:Addr) (m c:Nat) (news:List Value) (hx:a.eval x= .slice (some ad) m c) (hl:news.length=m*size) (hnews:∀j u,news[j]? =some u→w.cell? (ad.add j)=some u) (h1:∀u ∈ news,u.oneCell'=true)
 (h63:n+m≤maxLen) (hbytes: (n+m)*bytes≤140737488355328) (hbase:base≤w.heap.size)
 (h:∀o' c' w',w'.ownsRow base e size (.slice o' (n+m) c') (n+m) (xs ++ news)→w.grownBy w' v.ownBlock→ ((Value.slice o' (n+m) c').ownBlock=v.ownBlock∨ (Value.slice o' (n+m) c').ownBlock=some w.heap.size)→K (a.put o.dst (.slice o' (n+m) c')) w'):
 if Region.wanted o (yielded ops a.tmps)=true then Oper.wp P o a w K Q else E:=by
 have hw:Region.wanted o (yielded ops a.tmps)=true:=by simp [Region.wanted,hgd]
 rw [if_pos hw];obtain ⟨v',w',hr,h2,h3,h4⟩:=run_append_own (P:=P) w base t o.type e i z size bytes ht hi hz hsize hby hzs hsz v n xs hown ad m c news hl hnews h1 h63 hbytes hbase;have h5:=run_append_block (P:=P) w base t o.type e i z size bytes ht hi hz hsize hby hzs hsz v n xs hown ad m c news hl hnews h1 h63 hbytes hr;obtain ⟨o',c',rfl⟩:=owns_head h2;unfold Oper.wp execOp;simp only [ho,resolve,invoke,builtin,Sem.run_bind,Sem.run_pure,Result.andThen_ok,List.map_toArray,List.map_cons,List.map_nil,hs,hx,hr];exact h o' c' w' h2 h3 h5
theorem step_load_row {P:Program} {w:World} {ops:Array Oper} {o:Oper} {a:Act} {K:Act→World→Prop} {Q:Exit→Act→World→Prop} {E:Prop} (hgd:o.guard=none) (ty:TypeId) (x:Operand) (ho:o.op= .load ty x)
 (g:Nat) (hx:a.eval x= .pointer (some ⟨g,0,none⟩)) (t:TypeId) (cs:Array Value) (fr:Nat × Nat) (d:TypeDesc) (hg:w.heap[g]? =some (.cells cs t fr))
 (hu:P.underlying ty=some d) (hd: (match d with | .struct _ | .array _ _=>true | _=>false)=true) (hi: (P.info? ty).map (·.size)=some cs.size)
 (h:K (a.put o.dst (.agg cs)) w):if Region.wanted o (yielded ops a.tmps)=true then Oper.wp P o a w K Q else E:=by
 have hw:Region.wanted o (yielded ops a.tmps)=true:=by simp [Region.wanted,hgd]
 rw [if_pos hw];exact wp_load_row ty x ho g hx t cs fr d hg hu hd hi h
theorem arr_at (W:World) (cs:Array Value) (T:TypeId) (l:List Value) (h:l=cs.toList):∀j u,l[j]? =some u→ (W.alloc (.cells cs T)).cell? ((⟨W.heap.size,0,none⟩:Addr).add j)=some u:=by
 intro j u hj;subst h;rw [held.add_off,cell_of_row _ _ _ _ _ _ (heap_alloc_new W _)];simpa using hj
end Go.Proofs.YthfldokfnjpkmaaGreatDoor
