/- Rows of one's own that grow by append; a state that is built anew, row by row. -/
import Derived.Test.YtnoibjahliafpaaGreatDoorM19
import Derived.Test.YtnoibjahliafpaaGreatDoorM24
import Derived.Test.YtnoibjahliafpaaGreatDoorM01
import Derived.Test.YtnoibjahliafpaaGreatDoorM22
import Derived.Laws.AppendOwn
import Derived.Lib.LaidTab
import Derived.Lib.OthersKept
import Derived.Test.YtnoibjahliafpaaGreatDoorM20
import Derived.Test.YtnoibjahliafpaaGreatDoorM03
import Derived.Laws.EntriesVeiled
set_option linter.unusedVariables false
set_option linter.unusedSimpArgs false
namespace Go.Proofs.YtnoibjahliafpaaGreatDoor
open Go.ChangeShapes Go.WideShapes Go.ChangeAt Go.RowKit
theorem run_append_block {P:Program} (w:World) (base:Nat) (t ty e:TypeId) (i:TypeInfo) (z:Value) (size bytes:Nat) (ht:P.underlying t=some (.slice e)) (hi:P.info? e=some i) (hz:i.zero=some z)
 (hsize:i.size=size) (hby:i.bytes=bytes) (hzs:z.cells.size=size) (hsz:0 < size)
 (v:Value) (n:Nat) (xs:List Value) (hown:w.ownsRow base e size v n xs)
 (a:Addr) (m c:Nat) (news:List Value) (hl:news.length=m*size) (hnews:∀j u,news[j]? =some u→w.cell? (a.add j)=some u) (h1:∀u ∈ news,u.oneCell'=true)
 (h63:n+m≤maxLen) (hbytes: (n+m)*bytes≤140737488355328) {v':Value} {w':World} (hr: (Builtin.append_ #[t,t] ty #[v,.slice (some a) m c]).run P w= .ok v' w'):v'.ownBlock=v.ownBlock∨v'.ownBlock=some w.heap.size:=by
 subst hsize;subst hby;have hsmall:n+m≤9223372036854775807:=by simp only [maxLen] at h63;omega
 rcases hown.2 with ⟨rfl,rfl⟩ | ⟨g,cap,cur,rfl,hbg,hg,hnc,hcm,hcs,htake⟩
 · have hx:xs= []:=List.eq_nil_of_length_eq_zero (by simpa using hown.1);subst hx;by_cases hm:m=0
   · subst hm;have hn:news= []:=List.eq_nil_of_length_eq_zero (by simpa using hl);subst hn;have h2: (Builtin.append_ #[t,t] ty #[.slice none 0 0,.slice (some a) 0 c]).run P w= .ok (.slice none 0 0) w:=by
      simp [Builtin.append_,run_underlying ht,sizeOf,typeInfo,hi,Builtin.lenOf,Builtin.firstCells,loadCells,loadCellsFrom]
     rw [h2] at hr;injection hr with e1 e2
     subst e1;exact .inl rfl
   · have h2:=run_append_nil (P:=P) w t ty e i z ht hi hz a m c news hl hnews (by omega) (by omega) (by have hb:=hbytes;simp only [Nat.zero_add] at hb;omega);rw [h2] at hr;injection hr with e1 e2
     subst e1;exact .inr rfl
 · by_cases hroom:n+m≤cap
   · have hfit:n*i.size+news.length≤cur.size:=by rw [hl,hcs,←Nat.add_mul];exact Nat.mul_le_mul_right _ hroom
     have h2:=run_append_room (P:=P) w t ty e i ht hi g n cap cur hg a m c news hl hnews h1 hroom hfit;rw [h2] at hr;injection hr with e1 e2
     subst e1;exact .inl rfl
   · have holds:∀j u,xs[j]? =some u→w.cell? ((⟨g,0,none⟩:Addr).add j)=some u:=hown.cells (g:=g) rfl;have h2:=run_append_grow (P:=P) w t ty e i z ht hi hz ⟨g,0,none⟩ n cap xs hown.1 holds a m c news hl hnews (by omega) (by omega) (growslice_fits (by omega) hbytes);rw [h2] at hr;injection hr with e1 e2
     subst e1;exact .inr rfl
theorem wpList_append_keep {P:Program} {w:World} {ops:Array Oper} {rest:List Oper} {o:Oper} {a:Act} {Q:Exit→Act→World→Prop} (hgd:o.guard=none) (s x:Operand) (t:TypeId)
 (ho:o.op= .call { callee:= .builtin .append,args:=#[s,x],argTypes:=#[t,t] })
 (base:Nat) (e:TypeId) (i:TypeInfo) (z:Value) (size bytes:Nat) (ht:P.underlying t=some (.slice e)) (hi:P.info? e=some i) (hz:i.zero=some z)
 (hsize:i.size=size) (hby:i.bytes=bytes) (hzs:z.cells.size=size) (hsz:0 < size)
 (v:Value) (n:Nat) (xs:List Value) (hs:a.eval s=v) (hown:w.ownsRow base e size v n xs)
 (ad:Addr) (m c:Nat) (news:List Value) (hx:a.eval x= .slice (some ad) m c) (hl:news.length=m*size) (hnews:∀j u,news[j]? =some u→w.cell? (ad.add j)=some u) (h1:∀u ∈ news,u.oneCell'=true)
 (h63:n+m≤maxLen) (hbytes: (n+m)*bytes≤140737488355328) (hbase:base≤w.heap.size)
 (h:∀o' c' w',w'.ownsRow base e size (.slice o' (n+m) c') (n+m) (xs ++ news)→w.grownBy w' v.ownBlock→ ((Value.slice o' (n+m) c').ownBlock=v.ownBlock∨ (Value.slice o' (n+m) c').ownBlock=some w.heap.size)→wpList P ops Q rest (a.put o.dst (.slice o' (n+m) c')) w'):wpList P ops Q (o :: rest) a w:=
 wpList_plain hgd fun _ hK=>by
  obtain ⟨v',w',hr,h2,h3,h4⟩:=run_append_own (P:=P) w base t o.type e i z size bytes ht hi hz hsize hby hzs hsz v n xs hown ad m c news hl hnews h1 h63 hbytes hbase;have h5:=run_append_block (P:=P) w base t o.type e i z size bytes ht hi hz hsize hby hzs hsz v n xs hown ad m c news hl hnews h1 h63 hbytes hr;obtain ⟨o',c',rfl⟩:=owns_head h2;unfold Oper.wp execOp;simp only [ho,resolve,invoke,builtin,Sem.run_bind,Sem.run_pure,Result.andThen_ok,List.map_toArray,List.map_cons,List.map_nil,hs,hx,hr];exact hK _ _ (h o' c' w' h2 h3 h5)
theorem wpList_append_ints {w:World} {ops:Array Oper} {rest:List Oper} {o:Oper} {a:Act} {Q:Exit→Act→World→Prop} (hgd:o.guard=none) (s x:Operand) (t:TypeId)
 (ho:o.op= .call { callee:= .builtin .append,args:=#[s,x],argTypes:=#[t,t] }) (ht:Tryz.prog.underlying t=some (.slice 2)) {B:Nat} (so:Option Addr) (sc:Nat) (l:List Int) (hs:a.eval s= .slice none 0 0) (hx:a.eval x= .slice so l.length sc)
 (hr:Row B so 1 (intAt w) l) (hB:B≤w.heap.size) (hlen:l.length*8≤140737488355328)
 (h:∀no nc w',w'.ownsRow w.heap.size 2 1 (.slice no l.length nc) l.length (intsV l)→Below w.heap.size w w'→wpList Tryz.prog ops Q rest (a.put o.dst (.slice no l.length nc)) w'):wpList Tryz.prog ops Q (o :: rest) a w:=by
 obtain ⟨i0,hi,hz0,hz1,hz2⟩:=held.info_parts (t:=2) (z:= .int .i64 0) (a:=1) (b:=8) (by kernel_rfl);have hsrc:=src_ints hr hB;rcases hsrc with h0 | ⟨g,off,e,hg,hc⟩
 · have hl:l= []:=List.eq_nil_of_length_eq_zero h0;subst hl;exact wpList_append_zero hgd s x t ho w.heap.size 2 i0 1 ht hi (.slice none 0 0) 0 [] hs (World.ownsRow_nil _ _ _ _) so sc hx (h none 0 w (World.ownsRow_nil _ _ _ _) (Below.refl _ _))
 · subst e;refine wpList_append_own w hgd s x t ho w.heap.size 2 i0 (.int .i64 0) 1 8 ht hi hz0 hz1 hz2 rfl (by decide) (.slice none 0 0) 0 [] hs (World.ownsRow_nil _ _ _ _) ⟨g,off,none⟩ l.length sc (intsV l) hx (ints_len l) (fun j u hj=>by rw [held.add_off];exact hc j u hj) (ints_one l) (by unfold maxLen;omega) (by omega) (Nat.le_refl _) ?_;intro v' w' ho' hg' _;obtain ⟨no,nc,rfl⟩:=owns_head ho';rw [Nat.zero_add] at ho' ⊢;exact h no nc w' (by simpa using ho') ((Below.refl _ _).grown hg' (Nat.le_refl _) (fun k hk=>by cases hk))
theorem Own.grow {B:Nat} {w w':World} {R:Nat × Nat × Nat→RowS} (h:Own B w R) (k:Nat × Nat × Nat) {v':Value} {n':Nat} {xs':List Value} (hg:w.grownBy w' (R k).v.ownBlock) (ho:w'.ownsRow B (R k).e (R k).size v' n' xs') (hn:v'.ownBlock= (R k).v.ownBlock∨v'.ownBlock=some w.heap.size):
 Own B w' (upd R k ⟨(R k).e,(R k).size,v',n',xs'⟩):=by
 have far:∀q,q≠k→∀g,v'.ownBlock=some g→ (R q).v.ownBlock≠some g:=fun q hq g h1 h2=>by
  rcases hn with e | e
  · exact h.ne q k hq g h2 (by rw [←e];exact h1)
  · have:=((h.row q).lt g h2).2;rw [e] at h1;injection h1 with h1
    omega
 refine ⟨fun q=> ?_,fun q q' hq g hgq=> ?_⟩
 · by_cases e:q=k
   · rw [e,upd_same];exact ho
   · rw [upd_ne R _ e];refine (h.row q).kept hg ?_;cases hb: (R q).v.ownBlock with
     | none=>exact .inl rfl
     | some g=>exact .inr fun e2=>h.ne q k e g hb e2.symm
 · by_cases e:q=k
   · rw [e,upd_same] at hgq;rw [upd_ne R _ (fun e'=>hq (e.trans e'.symm))];exact far q' (fun e'=>hq (e.trans e'.symm)) g hgq
   · rw [upd_ne R _ e] at hgq;by_cases e':q'=k
     · rw [e',upd_same];intro h2;exact far q e g h2 hgq
     · rw [upd_ne R _ e'];exact h.ne q q' hq g hgq
def TyOk (R:Nat × Nat × Nat→RowS):Prop:=(∀k,k≠kC→ (R k).e≠66)∧∀k,k≠kP→ (R k).e≠39
theorem TyOk.upd {R:Nat × Nat × Nat→RowS} (h:TyOk R) (k:Nat × Nat × Nat) (r:RowS) (h1:k≠kC→r.e≠66) (h2:k≠kP→r.e≠39):TyOk (upd R k r):=by
 refine ⟨fun q hq=> ?_,fun q hq=> ?_⟩
 · by_cases e:q=k
   · rw [e,upd_same];exact h1 (e ▸ hq)
   · rw [upd_ne R r e];exact h.1 q hq
 · by_cases e:q=k
   · rw [e,upd_same];exact h2 (e ▸ hq)
   · rw [upd_ne R r e];exact h.2 q hq
structure CC (w0:World) (hs:SH) (s:StateD) (R:Nat × Nat × Nat→RowS) (nv:Array Value) (W:World):Prop where
 own:Own (w0.heap.size+3) W R
 ty:TyOk R
 box:W.heap[w0.heap.size]? =some (.cells (sCells hs s) 34 (0,0))
 res:W.heap[w0.heap.size+1]? =some (.cells #[.slice none 0 0,.slice none 0 0,.slice none 0 0,.int .i64 0,.int .i64 0,.int .i64 0] 34 (0,0))
 nb:W.heap[w0.heap.size+2]? =some (.cells nv 34 (0,0))
 bel:Below w0.heap.size w0 W
 sd:SD w0.heap.size W hs s
section
variable {w0 W W1:World} {hs:SH} {s:StateD} {R:Nat × Nat × Nat→RowS} {nv:Array Value}
theorem CC.le (h:CC w0 hs s R nv W):w0.heap.size+3≤W.heap.size:=lt_of_block h.nb
theorem CC.below (h:CC w0 hs s R nv W) (hb:Below W.heap.size W W1):CC w0 hs s R nv W1:=
 ⟨h.own.below hb,h.ty,(hb.block _ (lt_of_block h.box)).trans h.box,(hb.block _ (lt_of_block h.res)).trans h.res,(hb.block _ (lt_of_block h.nb)).trans h.nb,h.bel.trans (hb.mono h.bel.size),h.sd.below (hb.mono h.bel.size)⟩
theorem CC.put (h:CC w0 hs s R nv W) (hb:Below W.heap.size W W1) (k:Nat × Nat × Nat) (r:RowS) (hr:W1.ownsRow W.heap.size r.e r.size r.v r.n r.xs) (h1:k≠kC→r.e≠66) (h2:k≠kP→r.e≠39):CC w0 hs s (upd R k r) nv W1:=
 have h':=h.below hb
 ⟨h.own.put h.le hb k r hr,h.ty.upd k r h1 h2,h'.box,h'.res,h'.nb,h'.bel,h'.sd⟩
theorem CC.grow (h:CC w0 hs s R nv W) (k:Nat × Nat × Nat) {e:TypeId} {size:Nat} {v v':Value} {n n':Nat} {xs xs':List Value} (hk:R k= ⟨e,size,v,n,xs⟩) (hg:W.grownBy W1 v.ownBlock) (ho:W1.ownsRow (w0.heap.size+3) e size v' n' xs') (hn:v'.ownBlock=v.ownBlock∨v'.ownBlock=some W.heap.size):CC w0 hs s (upd R k ⟨e,size,v',n',xs'⟩) nv W1:=by
 have hrk:=h.own.row k;have hO:Own (w0.heap.size+3) W1 (upd R k ⟨(R k).e,(R k).size,v',n',xs'⟩):=h.own.grow k (by rw [hk];exact hg) (by rw [hk];exact ho) (by rw [hk];exact hn);rw [hk] at hrk hO;dsimp only at hrk hO;have hB:Below (w0.heap.size+3) W W1:=(Below.refl _ _).grown hg h.le (fun q hq=>(hrk.lt q hq).1);have hlow:∀b,b < w0.heap.size+3→W1.heap[b]? =W.heap[b]? :=fun b hb=>hB.block b hb
 refine ⟨hO,h.ty.upd k _ (fun hk'=>by have:=h.ty.1 k hk';rw [hk] at this;exact this) (fun hk'=>by have:=h.ty.2 k hk';rw [hk] at this;exact this),(hlow _ (by omega)).trans h.box,(hlow _ (by omega)).trans h.res,(hlow _ (by omega)).trans h.nb,h.bel.trans (hB.mono (by omega)),h.sd.below (hB.mono (by omega))⟩
theorem CC.nset (h:CC w0 hs s R nv W) (i:Nat) (v:Value):CC w0 hs s R (nv.setIfInBounds i v) (W.setCell ⟨w0.heap.size+2,i,none⟩ v):=
 have hB:Below (w0.heap.size+2) W (W.setCell ⟨w0.heap.size+2,i,none⟩ v):=Below.setCell (Below.refl (w0.heap.size+2) W) (by simp) v
 ⟨h.own.low _ (Nat.lt_succ_self _) v,h.ty,(hB.block _ (by omega)).trans h.box,(hB.block _ (by omega)).trans h.res,heap_setCell_same _ _ _ _ _ _ h.nb,h.bel.trans (hB.mono (by omega)),h.sd.below (hB.mono (by omega))⟩
theorem CC.xset (h:CC w0 hs s R nv W) {b:Nat} {cs:Array Value} {T:TypeId} (hb:W.heap[b]? =some (.cells cs T (0,0))) (hge:w0.heap.size+3≤b) (hT:∀k,(R k).e≠T∨ (R k).v.ownBlock≠some b) (i:Nat) (v:Value):CC w0 hs s R nv (W.setCell ⟨b,i,none⟩ v):=
 have hB:Below b W (W.setCell ⟨b,i,none⟩ v):=Below.setCell (Below.refl b W) (by simp) v
 ⟨h.own.other _ v fun k=>(hT k).elim (owns_neObj (h.own.row k) hb) id,h.ty,(hB.block _ (by omega)).trans h.box,(hB.block _ (by omega)).trans h.res,(hB.block _ (by omega)).trans h.nb,h.bel.trans (hB.mono (by omega)),h.sd.below (hB.mono (by omega))⟩
end
end Go.Proofs.YtnoibjahliafpaaGreatDoor
namespace Go.Proofs.YtnoibjahliafpaaGreatDoor
open Go.ChangeShapes Go.WideShapes Go.ChangeAt Go.RowKit
structure TabP (w:World):Prop where
 pow:Lib.TabIs Tryz.prog w "internal/strconv.uint64pow10" .u64 Lib.pow10Tab
 syn:∃te pe,w.cell? ⟨0,0,none⟩=some (.iface te pe)
 ran:∃te pe,w.cell? ⟨1,0,none⟩=some (.iface te pe)
def TabW (w:World):Prop:=∀w',Below w.heap.size w w'→TabP w'
theorem TabW.here {w:World} (h:TabW w):TabP w:=h w (Below.refl _ _)
theorem TabW.below {w w':World} (h:TabW w) (hb:Below w.heap.size w w'):TabW w':=fun v hv=>h v (hb.trans (hv.mono hb.size))
theorem info_u8: (Tryz.prog.info? 5).map (fun i=>(i.zero,i.size,i.bytes))=some (some (.int .u8 0),1,1):=by kernel_rfl
def AppP (B:Nat) (w:World) (n:Nat) (xs:List Value) (L:List UInt8) (e:Ending) (w':World):Prop:=∃o c,e= .returned (.slice o (n+L.length) c)∧w'.ownsRow B 5 1 (.slice o (n+L.length) c) (n+L.length) (xs ++ Lib.byteCells L)∧Below B w w'∧Lib.OthersKept 5 none w w'
theorem appI (B n:Nat) (v:Int) (hv:inI v) (sv:Value) (xs:List Value) (w:World) (hown:w.ownsRow B 5 1 sv n xs) (hBw:B≤w.heap.size) (hlim:n+70≤140737488355328) (hB:∀w',Below B w w'→TabP w'):
 Calls Tryz.prog 64 #[sv,.int .i64 v,.int .i64 10] w (AppP B w n xs (Lib.itoa v)):=by
 refine (Tryz.strconv_AppendInt_10 B n v hv.1 hv.2 sv xs w hown hBw (by omega) (fun w' h=>(hB w' h).pow)).mono ?_;rintro e w2 ⟨v',rfl,h1,h2,h3⟩;obtain ⟨o,c,rfl⟩:=owns_head h1;exact ⟨o,c,rfl,h1,h2,h3⟩
theorem below_bytes (w:World) (e:TypeId) (s:ByteArray):Below w.heap.size w (Lib.bytesWorld w e s):=
 ⟨rfl,rfl,rfl,by rw [Lib.bytesWorld_size];omega,fun k hk=>Lib.bytesWorld_at_old w e s k hk⟩
def PintP (s:List UInt8) (w:World) (e:Ending) (w':World):Prop:=
 ∃v ev,e= .returned (.tuple #[.int .i64 v,ev])∧ ((ev= .nilIface∧Lib.parseIntB 64 s= .ok v)∨ ((∃t p,ev= .iface t p)∧∀v,Lib.parseIntB 64 s≠ .ok v))∧Below w.heap.size w w'
theorem parseInt_any (s:List UInt8) (w:World) (hs:s.length≤4294967281) (hv:TabP w):Calls Tryz.prog 67 #[.string ⟨s.toArray⟩,.int .i64 10,.int .i64 64] w (PintP s w):=by
 obtain ⟨te,pe,h1⟩:=hv.syn;obtain ⟨te2,pe2,h2⟩:=hv.ran;have hsz: (⟨s.toArray⟩:ByteArray).size=s.length:=by simp [ByteArray.size]
 rcases hp:Lib.parseIntB 64 s with v | _ | _
 · refine (Tryz.strconv_ParseInt_10_at64_ok ⟨s.toArray⟩ (by omega) v (by simpa using hp) w).mono ?_;rintro e w' ⟨rfl,hw⟩;refine ⟨_,_,rfl,.inl ⟨rfl,hp⟩, ?_⟩;rcases hw with rfl | ⟨t,rfl⟩
   · exact Below.refl _ _
   · exact below_bytes w _ _
 all_goals first
  | (refine (Tryz.strconv_ParseInt_10_at64_syntax ⟨s.toArray⟩ (by omega) (by simpa using hp) _ w h1 (.inr ⟨_,_,rfl⟩)).mono ?_;rintro e w' ⟨N,rfl,_,_,hb⟩;exact ⟨_,_,rfl,.inr ⟨⟨_,_,rfl⟩,fun v=>by rw [hp];simp⟩,hb⟩)
  | (refine (Tryz.strconv_ParseInt_10_at64_range ⟨s.toArray⟩ (by omega) (by simpa using hp) _ w h2 (.inr ⟨_,_,rfl⟩)).mono ?_;rintro e w' ⟨N,rfl,_,_,hb⟩;exact ⟨_,_,rfl,.inr ⟨⟨_,_,rfl⟩,fun v=>by rw [hp];simp⟩,hb⟩)
end Go.Proofs.YtnoibjahliafpaaGreatDoor
namespace Go.Proofs.YtnoibjahliafpaaGreatDoor
open Go.ChangeShapes Go.WideShapes Go.ChangeAt Go.RowKit
def firstR (k:Nat × Nat × Nat):RowS:=if k.1=0 then ⟨2,1,.slice none 0 0,0,[]⟩ else if k.1=1 then ⟨66,2,.slice none 0 0,0,[]⟩ else if k.1=2 then ⟨39,4,.slice none 0 0,0,[]⟩ else if k.1=3 then ⟨76,1,.slice none 0 0,0,[]⟩ else rowNil
theorem firstR_nil (k:Nat × Nat × Nat): (firstR k).v= .slice none 0 0∧ (firstR k).n=0∧ (firstR k).xs= []∧ (firstR k).e≠34:=by
 unfold firstR rowNil;split
 · simp
 · split
   · simp
   · split
     · simp
     · split <;> simp
theorem firstR_own (B:Nat) (w:World):Own B w firstR:=by
 refine ⟨fun k=> ?_,fun k k' _ g hg=> ?_⟩
 · obtain ⟨h1,h2,h3,-⟩:=firstR_nil k;rw [h1,h2,h3];exact World.ownsRow_nil _ _ _ _
 · rw [(firstR_nil k).1] at hg;cases hg
structure FX (w0:World) (sb:Nat) (CM:Array Value) (R:Nat × Nat × Nat→RowS) (nv:Array Value) (W:World):Prop where
 own:Own (w0.heap.size+2) W R
 ty:∀k,(R k).e≠34
 box:W.heap[w0.heap.size]? =some (.cells CM 29 (0,0))
 res:W.heap[w0.heap.size+1]? =some (.cells #[.slice none 0 0,.slice none 0 0,.slice none 0 0,.int .i64 0,.int .i64 0,.int .i64 0] 34 (0,0))
 nb:W.heap[sb]? =some (.cells nv 34 (0,0))
 ge:w0.heap.size+2≤sb
 bel:Below w0.heap.size w0 W
structure FO (w0:World) (sb:Nat) (CM:Array Value) (s:StateD) (i:Nat) (R:Nat × Nat × Nat→RowS) (go:Option Addr) (gc:Nat) (co:Option Addr) (cc:Nat) (xs:List Value) (W:World):Prop where
 c:FX w0 sb CM R #[.slice go s.globals.length gc,.slice co i cc,.slice none 0 0,.int .i64 s.last,.int .i64 s.alone,.int .i64 (-1)] W
 hg:R kG= ⟨2,1,.slice go s.globals.length gc,s.globals.length,intsV s.globals⟩
 hc:R kC= ⟨66,2,.slice co i cc,i,xs⟩
 hp:R kP= ⟨39,4,.slice none 0 0,0,[]⟩
 ok:∀j (hj:j < s.chans.length),j < i→ChOk R xs j s.chans[j]
 nq:∀j,i≤j→R (kQ j)= ⟨76,1,.slice none 0 0,0,[]⟩
structure FP (w0:World) (sb:Nat) (CM:Array Value) (s:StateD) (j:Nat) (R:Nat × Nat × Nat→RowS) (go:Option Addr) (gc:Nat) (co:Option Addr) (cc:Nat) (xs:List Value) (po:Option Addr) (pc:Nat) (ps:List Value) (W:World):Prop where
 c:FX w0 sb CM R #[.slice go s.globals.length gc,.slice co s.chans.length cc,.slice po j pc,.int .i64 s.last,.int .i64 s.alone,.int .i64 (-1)] W
 hg:R kG= ⟨2,1,.slice go s.globals.length gc,s.globals.length,intsV s.globals⟩
 hc:R kC= ⟨66,2,.slice co s.chans.length cc,s.chans.length,xs⟩
 hp:R kP= ⟨39,4,.slice po j pc,j,ps⟩
 ok:∀i (hi:i < s.chans.length),ChOk R xs i s.chans[i]
 pk:∀m (hm:m < s.procs.length),m < j→PrOk R ps m s.procs[m]
section
variable {w0 W W1 W2 W3:World} {sb:Nat} {CM nv:Array Value} {s:StateD} {i j:Nat} {R:Nat × Nat × Nat→RowS} {go co po:Option Addr} {gc cc pc:Nat} {xs ps:List Value} {o:Obj}
theorem FX.le (h:FX w0 sb CM R nv W):w0.heap.size+2≤W.heap.size:=by have:=lt_of_block h.nb;have:=h.ge;omega
theorem FX.below (h:FX w0 sb CM R nv W) (hb:Below W.heap.size W W1):FX w0 sb CM R nv W1:=
 ⟨h.own.below hb,h.ty,(hb.block _ (lt_of_block h.box)).trans h.box,(hb.block _ (lt_of_block h.res)).trans h.res,(hb.block _ (lt_of_block h.nb)).trans h.nb,h.ge,h.bel.trans (hb.mono h.bel.size)⟩
theorem ty_upd (h:∀k,(R k).e≠34) (k:Nat × Nat × Nat) (r:RowS) (h1:r.e≠34):∀q,(upd R k r q).e≠34:=fun q=>by
 by_cases e:q=k
 · rw [e,upd_same];exact h1
 · rw [upd_ne R r e];exact h q
theorem FX.put (h:FX w0 sb CM R nv W) (hb:Below W.heap.size W W1) (k:Nat × Nat × Nat) (r:RowS) (hr:W1.ownsRow W.heap.size r.e r.size r.v r.n r.xs) (h1:r.e≠34):FX w0 sb CM (upd R k r) nv W1:=
 have h':=h.below hb
 ⟨h.own.put h.le hb k r hr,ty_upd h.ty k r h1,h'.box,h'.res,h'.nb,h'.ge,h'.bel⟩
theorem FX.grow (h:FX w0 sb CM R nv W) (k:Nat × Nat × Nat) {e:TypeId} {size:Nat} {v v':Value} {n n':Nat} {xs xs':List Value} (hk:R k= ⟨e,size,v,n,xs⟩) (hg:W.grownBy W1 v.ownBlock) (ho:W1.ownsRow (w0.heap.size+2) e size v' n' xs') (hn:v'.ownBlock=v.ownBlock∨v'.ownBlock=some W.heap.size):FX w0 sb CM (upd R k ⟨e,size,v',n',xs'⟩) nv W1:=by
 have hrk:=h.own.row k;have hty:=h.ty k;have hO:Own (w0.heap.size+2) W1 (upd R k ⟨(R k).e,(R k).size,v',n',xs'⟩):=h.own.grow k (by rw [hk];exact hg) (by rw [hk];exact ho) (by rw [hk];exact hn);rw [hk] at hrk hO hty;dsimp only at hrk hO hty;have hB:Below (w0.heap.size+2) W W1:=(Below.refl _ _).grown hg h.le (fun q hq=>(hrk.lt q hq).1);have hlow:∀b,b < w0.heap.size+2→W1.heap[b]? =W.heap[b]? :=fun b hb=>hB.block b hb
 have hsb:W1.heap[sb]? =W.heap[sb]? :=hg.block sb (lt_of_block h.nb) (fun e=>owns_neObj hrk h.nb hty e.symm);exact ⟨hO,ty_upd h.ty k _ hty,(hlow _ (by omega)).trans h.box,(hlow _ (by omega)).trans h.res,hsb.trans h.nb,h.ge,h.bel.trans (hB.mono (by omega))⟩
theorem FX.nset (h:FX w0 sb CM R nv W) (i:Nat) (v:Value):FX w0 sb CM R (nv.setIfInBounds i v) (W.setCell ⟨sb,i,none⟩ v):=
 have hge:=h.ge
 ⟨h.own.otherT h.nb h.ty i v,h.ty,(heap_setCell_other _ _ _ _ (by show _≠sb;omega)).trans h.box,(heap_setCell_other _ _ _ _ (by show _≠sb;omega)).trans h.res,heap_setCell_same _ _ _ _ _ _ h.nb,h.ge,h.bel.setCell (by show _≤sb;omega) v⟩
theorem FX.len (h:FX w0 sb CM R nv W) {q:Nat × Nat × Nat} {e:TypeId} {size n:Nat} {v:Value} {zs:List Value} (hq:R q= ⟨e,size,v,n,zs⟩):zs.length=n*size:=by
 have h1:=h.own.row q;rw [hq] at h1;exact h1.1
theorem FX.at (h:FX w0 sb CM R nv W) {q:Nat × Nat × Nat} {e:TypeId} {size n:Nat} {v:Value} {zs:List Value} (hq:R q= ⟨e,size,v,n,zs⟩):W.ownsRow (w0.heap.size+2) e size v n zs:=by
 have h1:=h.own.row q;rw [hq] at h1;exact h1
theorem FO.start (h:FX w0 sb CM (upd firstR kG ⟨2,1,.slice go s.globals.length gc,s.globals.length,intsV s.globals⟩) #[.slice go s.globals.length gc,.slice none 0 0,.slice none 0 0,.int .i64 s.last,.int .i64 s.alone,.int .i64 (-1)] W):
 FO w0 sb CM s 0 (upd firstR kG ⟨2,1,.slice go s.globals.length gc,s.globals.length,intsV s.globals⟩) go gc none 0 [] W:=by
 refine ⟨h,upd_same _ _ _, ?_, ?_,fun j _ hj=>absurd hj (by omega),fun j _=> ?_⟩
 · rw [upd_ne _ _ (by simp [kG,kC])];rfl
 · rw [upd_ne _ _ (by simp [kG,kP])];rfl
 · rw [upd_ne _ _ (by simp [kG,kQ])];rfl
theorem FO.next (h:FO w0 sb CM s i R go gc co cc xs W) (hi:i < s.chans.length) (hch:s.chans[i].queue= []) {co':Option Addr} {cc':Nat} (hg2: (W.alloc o).grownBy W2 (Value.slice co i cc).ownBlock)
 (hr2:W2.ownsRow (w0.heap.size+2) 66 2 (.slice co' (i+1) cc') (i+1) (xs ++ [.int .i64 s.chans[i].shape,.slice none 0 0])) (hn2: (Value.slice co' (i+1) cc').ownBlock= (Value.slice co i cc).ownBlock∨ (Value.slice co' (i+1) cc').ownBlock=some (W.alloc o).heap.size):
 ∃R',FO w0 sb CM s (i+1) R' go gc co' cc' (xs ++ [.int .i64 s.chans[i].shape,.slice none 0 0]) (W2.setCell ⟨sb,1,none⟩ (.slice co' (i+1) cc')):=by
 have c2:=(h.c.below (ball o)).grow kC h.hc hg2 hr2 hn2;have hxl:xs.length=i*2:=h.c.len h.hc;refine ⟨_,c2.nset 1 (.slice co' (i+1) cc'), ?_,upd_same _ _ _, ?_,fun j hj hji=> ?_,fun j hj=> ?_⟩
 · rw [upd_ne _ _ (by simp [kG,kC])];exact h.hg
 · rw [upd_ne _ _ (by simp [kP,kC])];exact h.hp
 · by_cases e:j=i
   · subst e;have hq:upd R kC ⟨66,2,.slice co' (j+1) cc',j+1,xs ++ [.int .i64 s.chans[j].shape,.slice none 0 0]⟩ (kQ j)= ⟨76,1,.slice none 0 0,0,[]⟩:=by
      rw [upd_ne _ _ (by simp [kQ,kC])];exact h.nq j (Nat.le_refl _)
     refine ⟨?_, ?_,none,0,[], ?_,fun m hm=> ?_⟩
     · rw [List.getElem?_append_right (by omega),hxl];simp
     · rw [List.getElem?_append_right (by omega),hxl,hq];simp
     · rw [hq,hch];rfl
     · rw [hch] at hm;exact absurd hm (by simp)
   · exact (h.ok j hj (by omega)).of (upd_ne _ _ (by simp [kQ,kC])) (fun m=>upd_ne _ _ (by simp [kM,kC])) (List.getElem?_append_left (by omega)) (List.getElem?_append_left (by omega))
 · rw [upd_ne _ _ (by simp [kQ,kC])];exact h.nq j (by omega)
theorem FP.start (h:FO w0 sb CM s s.chans.length R go gc co cc xs W):FP w0 sb CM s 0 R go gc co cc xs none 0 [] W:=⟨h.c,h.hg,h.hc,h.hp,fun i hi=>h.ok i hi hi,fun m _ hm=>absurd hm (by omega)⟩
theorem FP.step (h:FP w0 sb CM s j R go gc co cc xs po pc ps W) (hj:j < s.procs.length) {fo:Option Addr} {fc:Nat} (hb:Below W.heap.size W W2) (hr:W2.ownsRow W.heap.size 2 1 (.slice fo s.procs[j].frame.length fc) s.procs[j].frame.length (intsV s.procs[j].frame))
 {po':Option Addr} {pc':Nat} (hg3: (W2.alloc o).grownBy W3 (Value.slice po j pc).ownBlock) (hr3:W3.ownsRow (w0.heap.size+2) 39 4 (.slice po' (j+1) pc') (j+1) (ps ++ [.int .i64 s.procs[j].type,.int .i64 s.procs[j].loc,.int .i64 s.procs[j].prio,.slice fo s.procs[j].frame.length fc]))
 (hn3: (Value.slice po' (j+1) pc').ownBlock= (Value.slice po j pc).ownBlock∨ (Value.slice po' (j+1) pc').ownBlock=some (W2.alloc o).heap.size):
 ∃R',FP w0 sb CM s (j+1) R' go gc co cc xs po' pc' (ps ++ [.int .i64 s.procs[j].type,.int .i64 s.procs[j].loc,.int .i64 s.procs[j].prio,.slice fo s.procs[j].frame.length fc]) (W3.setCell ⟨sb,2,none⟩ (.slice po' (j+1) pc')):=by
 have c1:=(h.c.put hb (kF j) ⟨2,1,.slice fo s.procs[j].frame.length fc,s.procs[j].frame.length,intsV s.procs[j].frame⟩ hr (by simp)).below (ball o);have hp1:upd R (kF j) ⟨2,1,.slice fo s.procs[j].frame.length fc,s.procs[j].frame.length,intsV s.procs[j].frame⟩ kP= ⟨39,4,.slice po j pc,j,ps⟩:=by
  rw [upd_ne _ _ (by simp [kP,kF])];exact h.hp
 have c2:=c1.grow kP hp1 hg3 hr3 hn3;have hpl:ps.length=j*4:=h.c.len h.hp;refine ⟨_,c2.nset 2 (.slice po' (j+1) pc'), ?_, ?_,upd_same _ _ _,fun i hi=> ?_,fun m hm hmj=> ?_⟩
 · rw [upd_ne _ _ (by simp [kG,kP]),upd_ne _ _ (by simp [kG,kF])];exact h.hg
 · rw [upd_ne _ _ (by simp [kC,kP]),upd_ne _ _ (by simp [kC,kF])];exact h.hc
 · refine (h.ok i hi).of ?_ (fun m=> ?_) rfl rfl
   · rw [upd_ne _ _ (by simp [kQ,kP]),upd_ne _ _ (by simp [kQ,kF])]
   · rw [upd_ne _ _ (by simp [kM,kP]),upd_ne _ _ (by simp [kM,kF])]
 · by_cases e:m=j
   · subst e;have hf:upd (upd R (kF m) ⟨2,1,.slice fo s.procs[m].frame.length fc,s.procs[m].frame.length,intsV s.procs[m].frame⟩) kP ⟨39,4,.slice po' (m+1) pc',m+1,ps ++ [.int .i64 s.procs[m].type,.int .i64 s.procs[m].loc,.int .i64 s.procs[m].prio,.slice fo s.procs[m].frame.length fc]⟩ (kF m)= ⟨2,1,.slice fo s.procs[m].frame.length fc,s.procs[m].frame.length,intsV s.procs[m].frame⟩:=by
      rw [upd_ne _ _ (by simp [kF,kP]),upd_same]
     refine ⟨?_, ?_, ?_, ?_,by rw [hf];exact ⟨_,_,rfl⟩⟩
     · rw [List.getElem?_append_right (by omega),hpl];simp
     · rw [List.getElem?_append_right (by omega),hpl];simp
     · rw [List.getElem?_append_right (by omega),hpl];simp
     · rw [List.getElem?_append_right (by omega),hpl,hf];simp
   · refine (h.pk m hm (by omega)).of ?_ (List.getElem?_append_left (by omega)) (List.getElem?_append_left (by omega)) (List.getElem?_append_left (by omega)) (List.getElem?_append_left (by omega));rw [upd_ne _ _ (by simp [kF,kP]),upd_ne _ _ (by simp [kF] <;> omega)]
theorem FO.below (h:FO w0 sb CM s i R go gc co cc xs W) (hb:Below W.heap.size W W1):FO w0 sb CM s i R go gc co cc xs W1:=⟨h.c.below hb,h.hg,h.hc,h.hp,h.ok,h.nq⟩
theorem FP.below (h:FP w0 sb CM s j R go gc co cc xs po pc ps W) (hb:Below W.heap.size W W1):FP w0 sb CM s j R go gc co cc xs po pc ps W1:=⟨h.c.below hb,h.hg,h.hc,h.hp,h.ok,h.pk⟩
theorem FP.done (h:FP w0 sb CM s s.procs.length R go gc co cc xs po pc ps W):SO w0.heap.size W ⟨go,gc,co,cc,po,pc⟩ s∧Below w0.heap.size w0 W∧∀k,(R k).v.ownBlock≠some (w0.heap.size+1):=
 ⟨⟨R,h.c.own.mono (by omega),h.hg,⟨xs,h.hc,fun i hi=>h.ok i hi⟩,⟨ps,h.hp,fun m hm=>h.pk m hm hm⟩⟩,h.c.bel,fun k e=>by have:=((h.c.own.row k).lt _ e).1;omega⟩
end
def cntF (m:ModelD) (t:Nat):Nat:=(startsL 0 (m.procs.take t)).length
theorem starts_append:∀ (a b:List ProcD) (t:Nat),startsL t (a ++ b)=startsL t a ++ startsL (t+a.length) b
 | [],b,t=>by simp [startsL]
 | p :: a,b,t=>by
   rw [List.cons_append];simp only [startsL,List.length_cons];rw [starts_append a b (t+1),List.append_assoc,show t+1+a.length=t+ (a.length+1) by omega]
theorem cnt_step {m:ModelD} {t:Nat} {p:ProcD} (hp:m.procs[t]? =some p):cntF m (t+1)=cntF m t+p.active.toNat:=by
 obtain ⟨ht,rfl⟩:=List.getElem?_eq_some_iff.1 hp;unfold cntF;rw [List.take_succ_eq_append_getElem ht,starts_append];simp [startsL,startsOf]
theorem cnt_all (m:ModelD):cntF m m.procs.length= (startsL 0 m.procs).length:=by
 unfold cntF;rw [List.take_length]
theorem start_at {m:ModelD} {t a:Nat} {p:ProcD} (hp:m.procs[t]? =some p) (ha:a < p.active.toNat): (startsL 0 m.procs)[cntF m t+a]? =some (beginD t p (List.replicate p.params.toNat 0)):=by
 obtain ⟨ht,rfl⟩:=List.getElem?_eq_some_iff.1 hp;have h1:m.procs=m.procs.take t ++ (m.procs[t] :: m.procs.drop (t+1)):=by
  rw [←List.drop_eq_getElem_cons ht,List.take_append_drop]
 have h2:startsL 0 m.procs=startsL 0 (m.procs.take t) ++ startsL (0+ (m.procs.take t).length) (m.procs[t] :: m.procs.drop (t+1)):=by
  rw [←starts_append,←h1]
 rw [h2,List.getElem?_append_right (by unfold cntF;omega)];have h3:cntF m t+a - (startsL 0 (m.procs.take t)).length=a:=by unfold cntF;omega
 rw [h3];simp only [startsL];rw [List.getElem?_append_left (by simpa [startsOf] using ha)];have h4:0+ (m.procs.take t).length=t:=by rw [List.length_take];omega
 rw [h4];simp only [startsOf];rw [List.getElem?_replicate,if_pos ha]
end Go.Proofs.YtnoibjahliafpaaGreatDoor
namespace Go.Proofs.YtnoibjahliafpaaGreatDoor
open Go.ChangeShapes Go.WideShapes Go.ChangeAt Go.RowKit
theorem arr_at0 (W:World) (v:Value) (T:TypeId):∀j u,[v][j]? =some u→ (W.alloc (.cells #[v] T)).cell? ((⟨W.heap.size,0,none⟩:Addr).add j)=some u:=by
 intro j u hj;rw [held.add_off,cell_of_row _ _ _ _ _ _ (heap_alloc_new W _)];simpa using hj
theorem bytes_one (l:List UInt8):∀u ∈ Lib.byteCells l,u.oneCell'=true:=fun u hu=>by
 unfold Lib.byteCells at hu;obtain ⟨x,-,rfl⟩:=List.mem_map.1 hu;rfl
def EBx (B p:Nat) (L:List UInt8) (W:World):Prop:=∃o c,W.heap[p]? =some (.cells #[.slice o L.length c] 119 (0,0))∧W.ownsRow B 5 1 (.slice o L.length c) L.length (Lib.byteCells L)
def PutP (B p:Nat) (L:List UInt8) (W:World) (e:Ending) (W':World):Prop:=e= .returned (.tuple #[])∧EBx B p L W'∧Below B W W'∧Lib.OthersKept 5 (some p) W W'
theorem others_none {e:TypeId} {p:Nat} {w w':World} (h:Lib.OthersKept e none w w'):Lib.OthersKept e (some p) w w':=fun k o h1 _ h3=>h k o h1 (by simp) h3
theorem owns_kind {w:World} {B:Nat} {e:TypeId} {size n:Nat} {v:Value} {xs:List Value} (h:w.ownsRow B e size v n xs):∀g,v.ownBlock=some g→∃c fz,w.heap[g]? =some (.cells c e fz):=by
 intro g hg;rcases h.2 with ⟨rfl,_⟩ | ⟨g',cap,cur,rfl,_,hgg,_⟩
 · simp [Value.ownBlock] at hg
 · simp [Value.ownBlock] at hg;subst hg;exact ⟨cur,(0,0),hgg⟩
set_option maxHeartbeats 1000000 in
set_option maxRecDepth 100000 in
theorem putC (B p:Nat) (x:Int) (L:List UInt8) (W:World) (hB:B≤W.heap.size) (hp:B≤p) (he:EBx B p L W) (hx:inI x) (hl:L.length+100≤140737488355328) (ht:∀w',Below B W w'→TabP w'):
 Calls Tryz.prog 63 #[.int .i64 x,.pointer (some ⟨p,0,none⟩)] W (PutP B p (L ++ (Lib.itoa x ++ [44])) W):=by
 obtain ⟨o,c,hb,ho⟩:=he;have HI:=Lib.hid (appI B L.length x hx (.slice o L.length c) (Lib.byteCells L) W ho hB (by omega) ht);have HBX:=Lib.hid hb;have x0:W.cell? ⟨p,0,none⟩=some (.slice o L.length c):=(cell_of_row _ _ 0 _ _ _ hb).trans rfl;have HLE:=Lib.hid hB;have HPB:=Lib.hid hp;have hl2:=itoa20 hx;clear hb ho ht hx hB hp;obtain ⟨iu,hiu,iu0,iu1,iu2⟩:=info_parts info_u8;have HIU:=Lib.hid (And.intro hiu (And.intro iu0 (And.intro iu1 iu2)));clear hiu iu0 iu1 iu2;go_enter Tryz.func63,Tryz.ntmps63;go_wp2_with fail;refine HI.out.mono ?_;rintro e W1 ⟨o1,c1,rfl,hr1,hb1,hk1⟩;have HR1:=Lib.hid hr1;have HB1:=Lib.hid hb1;have HK1:=Lib.hid hk1;have HX1:=Lib.hid (hk1 p _ HBX.out (by simp) (by simp));have x1:W1.cell? ⟨p,0,none⟩=some (.slice o L.length c):=(cell_of_row _ _ 0 _ _ _ HX1.out).trans rfl;have f1:W1.frozen? ⟨p,0,none⟩=false:=frozen_of_row _ _ _ _ _ HX1.out;obtain ⟨n1,hn1⟩:∃n,L.length+ (Lib.itoa x).length=n:=⟨_,rfl⟩;have HX2:Hid ((W1.setCell ⟨p,0,none⟩ (.slice o1 n1 c1)).heap[p]? =some (.cells #[.slice o1 n1 c1] 119 (0,0))):=Lib.hid ((heap_setCell_same _ _ _ _ _ _ HX1.out).trans rfl);have HR2:Hid ((W1.setCell ⟨p,0,none⟩ (.slice o1 n1 c1)).ownsRow B 5 1 (.slice o1 n1 c1) n1 (Lib.byteCells L ++ Lib.byteCells (Lib.itoa x))):=Lib.hid (by
  rw [hn1] at hr1;exact owns_set hr1 _ _ (owns_neObj hr1 HX1.out (by simp)))
 have HB2:Hid (Below B W (W1.setCell ⟨p,0,none⟩ (.slice o1 n1 c1))):=Lib.hid (hb1.setCell HPB.out _);have HK2:Hid (Lib.OthersKept 5 (some p) W (W1.setCell ⟨p,0,none⟩ (.slice o1 n1 c1))):=Lib.hid ((others_none hk1).setCell ⟨p,0,none⟩ rfl _);rw [hn1];clear hr1 hb1 hk1 x0 HI HBX HR1 HB1 HK1 HX1;go_upto_region 1 with fail
 generalize W1.setCell ⟨p,0,none⟩ (.slice o1 n1 c1)=W2 at HX2 HR2 HB2 HK2 ⊢;clear x1 f1;have x2:W2.cell? ⟨p,0,none⟩=some (.slice o1 n1 c1):=(cell_of_row _ _ 0 _ _ _ HX2.out).trans rfl;have f2:W2.frozen? ⟨p,0,none⟩=false:=frozen_of_row _ _ _ _ _ HX2.out;go_wp2_with (at_builtin;refine wpList_append_keep rfl _ _ 119 rfl B 5 iu (.int .u8 0) 1 1 Tryz.underlying119 HIU.out.1 HIU.out.2.1 HIU.out.2.2.1 HIU.out.2.2.2 rfl (by decide) (.slice o1 n1 c1) n1 (Lib.byteCells L ++ Lib.byteCells (Lib.itoa x)) rfl (HR2.out.alloc _) ⟨W2.heap.size,0,none⟩ 1 1 [.int .u8 44] rfl rfl (arr_at0 _ _ _) (by simp [Value.oneCell']) (by unfold maxLen;omega) (by omega) (by simp;have:=HB2.out.size;have:=HLE.out;omega) ?_);intro o2 c2 W3 hr3 hg3 hn3;have hbx:Below W2.heap.size W2 (W2.alloc (.cells #[.int .u8 44] 5)):=ball _;have hpl:p < W2.heap.size:=lt_of_block HX2.out;have hne:some p≠ (Value.slice o1 n1 c1).ownBlock:=fun e=>owns_neObj HR2.out HX2.out (by simp) e.symm
 have hbp:W3.heap[p]? =some (.cells #[.slice o1 n1 c1] 119 (0,0)):=(hg3.block p (by simp;omega) hne).trans ((hbx.block p hpl).trans HX2.out);have HX3:=Lib.hid hbp;have HB3:Hid (Below B W W3):=Lib.hid ((HB2.out.trans (hbx.mono (Nat.le_trans HLE.out HB2.out.size))).grown hg3 (by simp;have:=HB2.out.size;have:=HLE.out;omega) (fun q hq=>(HR2.out.lt q hq).1));have HK3:Hid (Lib.OthersKept 5 (some p) W W3):=Lib.hid ((HK2.out.alloc _).grown hg3 (owns_kind (HR2.out.alloc _)));have x3:W3.cell? ⟨p,0,none⟩=some (.slice o1 n1 c1):=(cell_of_row _ _ 0 _ _ _ HX3.out).trans rfl;have f3:W3.frozen? ⟨p,0,none⟩=false:=frozen_of_row _ _ _ _ _ HX3.out;have HZ:Hid (PutP B p (L ++ (Lib.itoa x ++ [44])) W (.returned (.tuple #[])) (W3.setCell ⟨p,0,none⟩ (.slice o2 (n1+1) c2))):=Lib.hid (by
  have hlen:n1+1= (L ++ (Lib.itoa x ++ [44])).length:=by simp only [List.length_append,List.length_singleton];omega
  refine ⟨rfl,⟨o2,c2, ?_, ?_⟩,HB3.out.setCell HPB.out _,HK3.out.setCell ⟨p,0,none⟩ rfl _⟩
  · rw [←hlen];exact (heap_setCell_same _ _ _ _ _ _ HX3.out).trans rfl
  · rw [←hlen,cells_app,cells_app];have h9:=owns_set hr3 ⟨p,0,none⟩ (.slice o2 (n1+1) c2) (owns_neObj hr3 HX3.out (by simp));exact h9)
 clear hbx hpl hne hbp hr3 hg3 hn3 x2 f2 HX2 HR2 HB2 HK2;go_wp2_with fail;go_end0;exact HZ.out
def GBx (p q:Nat) (W:World):Prop:=W.heap[q]? =some (.cells #[.func (.func 63) #[] #[.pointer (some ⟨p,0,none⟩)]] 121 (0,0))
theorem EBx.below {B p:Nat} {L:List UInt8} {W W':World} (h:EBx B p L W) (hb:Below W.heap.size W W'):EBx B p L W':=by
 obtain ⟨o,c,h1,h2⟩:=h;exact ⟨o,c,(hb.block _ (lt_of_block h1)).trans h1,owns_below h2 hb⟩
set_option maxHeartbeats 1000000 in
set_option maxRecDepth 100000 in
theorem putAllC {B0:Nat} (B p q:Nat) (l ns:List Int) (o:Option Addr) (c:Nat) (W:World) (hB0:B0≤B) (hB:B≤W.heap.size) (hp:B≤p) (he:EBx B p (rowT ns) W) (hg:GBx p q W) (hl:Row B0 o 1 (intAt W) l) (hx:∀v ∈ ns ++ l,inI v) (hm: (ns ++ l).length≤8000) (ht:∀w',Below B W w'→TabP w'):
 Calls Tryz.prog 65 #[.slice o l.length c,.pointer (some ⟨q,0,none⟩)] W (PutP B p (rowT (ns ++ l)) W):=by
 have HE0:Hid (EBx B p (rowT (ns ++ l.take 0)) W∧Below B W W∧Lib.OthersKept 5 (some p) W W):=Lib.hid ⟨by simpa using he,Below.refl _ _,Lib.OthersKept.refl _ _ _⟩;have hqp:q≠p:=by
  rintro rfl;obtain ⟨o',c',b1,-⟩:=he;unfold GBx at hg;rw [b1] at hg;simp at hg
 have HH:=Lib.hid (And.intro hB0 (And.intro hB (And.intro hp (And.intro hg (And.intro hl (And.intro hx (And.intro hm ht)))))));have hll:=hl.1;clear hB0 hB hp he hg hl hx hm ht;go_enter Tryz.func65,Tryz.ntmps65;go_wp2_with fail
 go_loopw [7] (fun iv W'=>∃i:Nat,iv= .int .i64 i∧i≤l.length∧Hid (EBx B p (rowT (ns ++ l.take i)) W'∧Below B W W'∧Lib.OthersKept 5 (some p) W W')) (fun iv _=>l.length - (intOf iv).toNat)
 case atStart=>exact ⟨0,rfl,by omega,HE0⟩
 case round=>
  clear HE0;obtain ⟨i,rfl,hi,HE⟩:=hrel;have hi0: (0:Int)≤i:=by omega
  by_cases hlt:i < l.length
  · have hlti: (i:Int) < l.length:=by omega
    obtain ⟨h1,h2,h3,h4,h5,h6,h7,h8⟩:=HH.out;obtain ⟨k1,k2,k3⟩:=HE.out;obtain ⟨g,off,ho,hgB,e1⟩:=(h5.mono fun _ _ _ hg=>intAt.below (k2.mono h1) hg).cell hlt;subst ho;obtain ⟨v,hv⟩:∃v,l[i]=v:=⟨_,rfl⟩;rw [hv] at e1;unfold intAt at e1;rw [Nat.mul_one] at e1;have z1:wr.cell? ⟨q,0,none⟩=some (.func (.func 63) #[] #[.pointer (some ⟨p,0,none⟩)]):=(cell_of_row _ _ 0 _ _ _ (k3 q _ h4 (fun e=>hqp (by injection e)) (by simp))).trans rfl;have hvm:v ∈ l:=by rw [←hv];exact List.getElem_mem hlt
    have hpre:∀x ∈ ns ++ l.take i,inI x:=fun x hx=>h6 x (by
     rcases List.mem_append.1 hx with h | h
     · exact List.mem_append_left _ h
     · exact List.mem_append_right _ (List.mem_of_mem_take h))
    have hlen:=rowT_len hpre;have hpl: (ns ++ l.take i).length≤8000:=by
     rw [List.length_append,List.length_take];rw [List.length_append] at h7;omega
    have HP:=Lib.hid (putC B p v (rowT (ns ++ l.take i)) wr (Nat.le_trans h2 k2.size) h3 k1 (h6 v (List.mem_append_right _ hvm)) (by omega) (fun w' hw=>h8 w' (k2.trans hw)));have HE2:Hid (rowT (ns ++ l.take i) ++ (Lib.itoa v ++ [44])=rowT (ns ++ l.take (i+1))):=Lib.hid (by
     rw [List.take_succ_eq_append_getElem hlt,hv];simp only [rowT_append,rowT_one,List.append_assoc])
    have HB1:=Lib.hid k2;have HK1:=Lib.hid k3;clear h1 h2 h3 h4 h5 h6 h7 h8 k1 k2 k3 hv hvm hpre hlen hpl hgB;go_wp2_with fail;refine HP.out.mono ?_;rintro e W2 ⟨rfl,he2,hb2,hk2⟩;have HE3:Hid (EBx B p (rowT (ns ++ l.take (i+1))) W2∧Below B W W2∧Lib.OthersKept 5 (some p) W W2):=Lib.hid ⟨by rw [←HE2.out];exact he2,HB1.out.trans hb2,HK1.out.trans hk2⟩;clear he2 hb2 hk2 z1 e1 HP HE2;go_wp2_with fail;go_roundw;case rel=>exact ⟨i+1,by go_num,by omega,HE3⟩
    case measure=>simp [intOf];omega
  · have hlti:¬ (i:Int) < l.length:=by omega
    have HE3:Hid (PutP B p (rowT (ns ++ l)) W (.returned (.tuple #[])) wr):=Lib.hid (by
     obtain ⟨k1,k2,k3⟩:=HE.out;rw [List.take_of_length_le (by omega)] at k1;exact ⟨rfl,k1,k2,k3⟩)
    clear HE;go_wp2_with fail;go_end0;exact HE3.out
end Go.Proofs.YtnoibjahliafpaaGreatDoor
