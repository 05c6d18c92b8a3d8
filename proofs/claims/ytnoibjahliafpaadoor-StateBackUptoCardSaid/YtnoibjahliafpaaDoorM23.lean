/- Rows of one's own that grow by append; a state that is built anew, row by row. -/
import Derived.Test.YtnoibjahliafpaaDoorM21
import Derived.Test.YtnoibjahliafpaaDoorM22
import Derived.Laws.BitsLemmas
import Derived.RowKit
import Derived.WalkKit
set_option linter.unusedVariables false
set_option linter.unusedSimpArgs false
namespace Go.Proofs.YtnoibjahliafpaaDoor
open Go.ChangeShapes Go.WideShapes Go.ChangeAt Go.RowKit
theorem run_append_block {P:Program} (w:World) (base:Nat) (t ty e:TypeId) (i:TypeInfo) (z:Value) (size bytes:Nat) (ht:P.underlying t=some (.slice e)) (hi:P.info? e=some i) (hz:i.zero=some z)
 (hsize:i.size=size) (hby:i.bytes=bytes) (hzs:z.cells.size=size) (hsz:0 < size)
 (v:Value) (n:Nat) (xs:List Value) (hown:w.ownsRow base e size v n xs)
 (a:Addr) (m c:Nat) (news:List Value) (hl:news.length=m*size) (hnews:∀j u,news[j]? =some u→w.cell? (a.add j)=some u) (h1:∀u ∈ news,u.oneCell'=true)
 (h63:n+m≤maxLen) (hbytes: (n+m)*bytes≤140737488355328) {v':Value} {w':World} (hr: (Builtin.append_ #[t,t] ty #[v,.slice (some a) m c]).run P w= .ok v' w'):v'.ownBlock=v.ownBlock∨v'.ownBlock=some w.heap.size:=by
 subst hsize;subst hby;have hsmall:n+m≤9223372036854775807:=by simp only [maxLen] at h63;omega
 rcases hown.2 with ⟨rfl,rfl⟩ | ⟨g,cap,cur,rfl,hbg,hg,hnc,hcm,hcs,htake⟩
 · have hx:xs= []:=List.eq_nil_of_length_eq_zero (by simpa using hown.1);subst hx;by_cases hm:m=0
   · subst hm;have hn:news= []:=List.eq_nil_of_length_eq_zero (by simpa using hl);subst hn;have h2: (Builtin.append_ #[t,t] ty #[.slice none 0 0,.slice (some a) 0 c]).run P w= .ok (.slice none 0 0) w:=by
      simp [Builtin.append_,run_underlying ht,sizeOf,typeInfo,hi,Builtin.lenOf,Builtin.firstCells,loadCells,loadCellsFrom]
     rw [h2] at hr;injection hr with e1 e2
     subst e1;exact .inl rfl
   · have h2:=run_append_nil (P:=P) w t ty e i z ht hi hz a m c news hl hnews (by omega) (by omega) (by have hb:=hbytes;simp only [Nat.zero_add] at hb;omega);rw [h2] at hr;injection hr with e1 e2
     subst e1;exact .inr rfl
 · by_cases hroom:n+m≤cap
   · have hfit:n*i.size+news.length≤cur.size:=by rw [hl,hcs,←Nat.add_mul];exact Nat.mul_le_mul_right _ hroom
     have h2:=run_append_room (P:=P) w t ty e i ht hi g n cap cur hg a m c news hl hnews h1 hroom hfit;rw [h2] at hr;injection hr with e1 e2
     subst e1;exact .inl rfl
   · have holds:∀j u,xs[j]? =some u→w.cell? ((⟨g,0,none⟩:Addr).add j)=some u:=hown.cells (g:=g) rfl;have h2:=run_append_grow (P:=P) w t ty e i z ht hi hz ⟨g,0,none⟩ n cap xs hown.1 holds a m c news hl hnews (by omega) (by omega) (growslice_fits (by omega) hbytes);rw [h2] at hr;injection hr with e1 e2
     subst e1;exact .inr rfl
theorem wpList_append_keep {P:Program} {w:World} {ops:Array Oper} {rest:List Oper} {o:Oper} {a:Act} {Q:Exit→Act→World→Prop} (hgd:o.guard=none) (s x:Operand) (t:TypeId)
 (ho:o.op= .call { callee:= .builtin .append,args:=#[s,x],argTypes:=#[t,t] })
 (base:Nat) (e:TypeId) (i:TypeInfo) (z:Value) (size bytes:Nat) (ht:P.underlying t=some (.slice e)) (hi:P.info? e=some i) (hz:i.zero=some z)
 (hsize:i.size=size) (hby:i.bytes=bytes) (hzs:z.cells.size=size) (hsz:0 < size)
 (v:Value) (n:Nat) (xs:List Value) (hs:a.eval s=v) (hown:w.ownsRow base e size v n xs)
 (ad:Addr) (m c:Nat) (news:List Value) (hx:a.eval x= .slice (some ad) m c) (hl:news.length=m*size) (hnews:∀j u,news[j]? =some u→w.cell? (ad.add j)=some u) (h1:∀u ∈ news,u.oneCell'=true)
 (h63:n+m≤maxLen) (hbytes: (n+m)*bytes≤140737488355328) (hbase:base≤w.heap.size)
 (h:∀o' c' w',w'.ownsRow base e size (.slice o' (n+m) c') (n+m) (xs ++ news)→w.grownBy w' v.ownBlock→ ((Value.slice o' (n+m) c').ownBlock=v.ownBlock∨ (Value.slice o' (n+m) c').ownBlock=some w.heap.size)→wpList P ops Q rest (a.put o.dst (.slice o' (n+m) c')) w'):wpList P ops Q (o :: rest) a w:=
 wpList_plain hgd fun _ hK=>by
  obtain ⟨v',w',hr,h2,h3,h4⟩:=run_append_own (P:=P) w base t o.type e i z size bytes ht hi hz hsize hby hzs hsz v n xs hown ad m c news hl hnews h1 h63 hbytes hbase;have h5:=run_append_block (P:=P) w base t o.type e i z size bytes ht hi hz hsize hby hzs hsz v n xs hown ad m c news hl hnews h1 h63 hbytes hr;obtain ⟨o',c',rfl⟩:=owns_head h2;unfold Oper.wp execOp;simp only [ho,resolve,invoke,builtin,Sem.run_bind,Sem.run_pure,Result.andThen_ok,List.map_toArray,List.map_cons,List.map_nil,hs,hx,hr];exact hK _ _ (h o' c' w' h2 h3 h5)
theorem wpList_append_ints {w:World} {ops:Array Oper} {rest:List Oper} {o:Oper} {a:Act} {Q:Exit→Act→World→Prop} (hgd:o.guard=none) (s x:Operand) (t:TypeId)
 (ho:o.op= .call { callee:= .builtin .append,args:=#[s,x],argTypes:=#[t,t] }) (ht:Tryd.prog.underlying t=some (.slice 2)) {B:Nat} (so:Option Addr) (sc:Nat) (l:List Int) (hs:a.eval s= .slice none 0 0) (hx:a.eval x= .slice so l.length sc)
 (hr:Row B so 1 (intAt w) l) (hB:B≤w.heap.size) (hlen:l.length*8≤140737488355328)
 (h:∀no nc w',w'.ownsRow w.heap.size 2 1 (.slice no l.length nc) l.length (intsV l)→Below w.heap.size w w'→wpList Tryd.prog ops Q rest (a.put o.dst (.slice no l.length nc)) w'):wpList Tryd.prog ops Q (o :: rest) a w:=by
 obtain ⟨i0,hi,hz0,hz1,hz2⟩:=held.info_parts (t:=2) (z:= .int .i64 0) (a:=1) (b:=8) (by kernel_rfl);have hsrc:=src_ints hr hB;rcases hsrc with h0 | ⟨g,off,e,hg,hc⟩
 · have hl:l= []:=List.eq_nil_of_length_eq_zero h0;subst hl;exact wpList_append_zero hgd s x t ho w.heap.size 2 i0 1 ht hi (.slice none 0 0) 0 [] hs (World.ownsRow_nil _ _ _ _) so sc hx (h none 0 w (World.ownsRow_nil _ _ _ _) (Below.refl _ _))
 · subst e;refine wpList_append_own w hgd s x t ho w.heap.size 2 i0 (.int .i64 0) 1 8 ht hi hz0 hz1 hz2 rfl (by decide) (.slice none 0 0) 0 [] hs (World.ownsRow_nil _ _ _ _) ⟨g,off,none⟩ l.length sc (intsV l) hx (ints_len l) (fun j u hj=>by rw [held.add_off];exact hc j u hj) (ints_one l) (by unfold maxLen;omega) (by omega) (Nat.le_refl _) ?_;intro v' w' ho' hg' _;obtain ⟨no,nc,rfl⟩:=owns_head ho';rw [Nat.zero_add] at ho' ⊢;exact h no nc w' (by simpa using ho') ((Below.refl _ _).grown hg' (Nat.le_refl _) (fun k hk=>by cases hk))
theorem Own.grow {B:Nat} {w w':World} {R:Nat × Nat × Nat→RowS} (h:Own B w R) (k:Nat × Nat × Nat) {v':Value} {n':Nat} {xs':List Value} (hg:w.grownBy w' (R k).v.ownBlock) (ho:w'.ownsRow B (R k).e (R k).size v' n' xs') (hn:v'.ownBlock= (R k).v.ownBlock∨v'.ownBlock=some w.heap.size):
 Own B w' (upd R k ⟨(R k).e,(R k).size,v',n',xs'⟩):=by
 have far:∀q,q≠k→∀g,v'.ownBlock=some g→ (R q).v.ownBlock≠some g:=fun q hq g h1 h2=>by
  rcases hn with e | e
  · exact h.ne q k hq g h2 (by rw [←e];exact h1)
  · have:=((h.row q).lt g h2).2;rw [e] at h1;injection h1 with h1
    omega
 refine ⟨fun q=> ?_,fun q q' hq g hgq=> ?_⟩
 · by_cases e:q=k
   · rw [e,upd_same];exact ho
   · rw [upd_ne R _ e];refine (h.row q).kept hg ?_;cases hb: (R q).v.ownBlock with
     | none=>exact .inl rfl
     | some g=>exact .inr fun e2=>h.ne q k e g hb e2.symm
 · by_cases e:q=k
   · rw [e,upd_same] at hgq;rw [upd_ne R _ (fun e'=>hq (e.trans e'.symm))];exact far q' (fun e'=>hq (e.trans e'.symm)) g hgq
   · rw [upd_ne R _ e] at hgq;by_cases e':q'=k
     · rw [e',upd_same];intro h2;exact far q e g h2 hgq
     · rw [upd_ne R _ e'];exact h.ne q q' hq g hgq
def TyOk (R:Nat × Nat × Nat→RowS):Prop:=(∀k,k≠kC→ (R k).e≠61)∧∀k,k≠kP→ (R k).e≠63
theorem TyOk.upd {R:Nat × Nat × Nat→RowS} (h:TyOk R) (k:Nat × Nat × Nat) (r:RowS) (h1:k≠kC→r.e≠61) (h2:k≠kP→r.e≠63):TyOk (upd R k r):=by
 refine ⟨fun q hq=> ?_,fun q hq=> ?_⟩
 · by_cases e:q=k
   · rw [e,upd_same];exact h1 (e ▸ hq)
   · rw [upd_ne R r e];exact h.1 q hq
 · by_cases e:q=k
   · rw [e,upd_same];exact h2 (e ▸ hq)
   · rw [upd_ne R r e];exact h.2 q hq
structure CC (w0:World) (hs:SH) (s:StateD) (R:Nat × Nat × Nat→RowS) (nv:Array Value) (W:World):Prop where
 own:Own (w0.heap.size+3) W R
 ty:TyOk R
 box:W.heap[w0.heap.size]? =some (.cells (sCells hs s) 33 (0,0))
 res:W.heap[w0.heap.size+1]? =some (.cells #[.slice none 0 0,.slice none 0 0,.slice none 0 0,.int .i64 0,.int .i64 0,.int .i64 0] 33 (0,0))
 nb:W.heap[w0.heap.size+2]? =some (.cells nv 33 (0,0))
 bel:Below w0.heap.size w0 W
 sd:SD w0.heap.size W hs s
section
variable {w0 W W1:World} {hs:SH} {s:StateD} {R:Nat × Nat × Nat→RowS} {nv:Array Value}
theorem CC.le (h:CC w0 hs s R nv W):w0.heap.size+3≤W.heap.size:=lt_of_block h.nb
theorem CC.below (h:CC w0 hs s R nv W) (hb:Below W.heap.size W W1):CC w0 hs s R nv W1:=
 ⟨h.own.below hb,h.ty,(hb.block _ (lt_of_block h.box)).trans h.box,(hb.block _ (lt_of_block h.res)).trans h.res,(hb.block _ (lt_of_block h.nb)).trans h.nb,h.bel.trans (hb.mono h.bel.size),h.sd.below (hb.mono h.bel.size)⟩
theorem CC.put (h:CC w0 hs s R nv W) (hb:Below W.heap.size W W1) (k:Nat × Nat × Nat) (r:RowS) (hr:W1.ownsRow W.heap.size r.e r.size r.v r.n r.xs) (h1:k≠kC→r.e≠61) (h2:k≠kP→r.e≠63):CC w0 hs s (upd R k r) nv W1:=
 have h':=h.below hb
 ⟨h.own.put h.le hb k r hr,h.ty.upd k r h1 h2,h'.box,h'.res,h'.nb,h'.bel,h'.sd⟩
theorem CC.grow (h:CC w0 hs s R nv W) (k:Nat × Nat × Nat) {e:TypeId} {size:Nat} {v v':Value} {n n':Nat} {xs xs':List Value} (hk:R k= ⟨e,size,v,n,xs⟩) (hg:W.grownBy W1 v.ownBlock) (ho:W1.ownsRow (w0.heap.size+3) e size v' n' xs') (hn:v'.ownBlock=v.ownBlock∨v'.ownBlock=some W.heap.size):CC w0 hs s (upd R k ⟨e,size,v',n',xs'⟩) nv W1:=by
 have hrk:=h.own.row k;have hO:Own (w0.heap.size+3) W1 (upd R k ⟨(R k).e,(R k).size,v',n',xs'⟩):=h.own.grow k (by rw [hk];exact hg) (by rw [hk];exact ho) (by rw [hk];exact hn);rw [hk] at hrk hO;dsimp only at hrk hO;have hB:Below (w0.heap.size+3) W W1:=(Below.refl _ _).grown hg h.le (fun q hq=>(hrk.lt q hq).1);have hlow:∀b,b < w0.heap.size+3→W1.heap[b]? =W.heap[b]? :=fun b hb=>hB.block b hb
 refine ⟨hO,h.ty.upd k _ (fun hk'=>by have:=h.ty.1 k hk';rw [hk] at this;exact this) (fun hk'=>by have:=h.ty.2 k hk';rw [hk] at this;exact this),(hlow _ (by omega)).trans h.box,(hlow _ (by omega)).trans h.res,(hlow _ (by omega)).trans h.nb,h.bel.trans (hB.mono (by omega)),h.sd.below (hB.mono (by omega))⟩
theorem CC.nset (h:CC w0 hs s R nv W) (i:Nat) (v:Value):CC w0 hs s R (nv.setIfInBounds i v) (W.setCell ⟨w0.heap.size+2,i,none⟩ v):=
 have hB:Below (w0.heap.size+2) W (W.setCell ⟨w0.heap.size+2,i,none⟩ v):=Below.setCell (Below.refl (w0.heap.size+2) W) (by simp) v
 ⟨h.own.low _ (Nat.lt_succ_self _) v,h.ty,(hB.block _ (by omega)).trans h.box,(hB.block _ (by omega)).trans h.res,heap_setCell_same _ _ _ _ _ _ h.nb,h.bel.trans (hB.mono (by omega)),h.sd.below (hB.mono (by omega))⟩
theorem CC.xset (h:CC w0 hs s R nv W) {b:Nat} {cs:Array Value} {T:TypeId} (hb:W.heap[b]? =some (.cells cs T (0,0))) (hge:w0.heap.size+3≤b) (hT:∀k,(R k).e≠T∨ (R k).v.ownBlock≠some b) (i:Nat) (v:Value):CC w0 hs s R nv (W.setCell ⟨b,i,none⟩ v):=
 have hB:Below b W (W.setCell ⟨b,i,none⟩ v):=Below.setCell (Below.refl b W) (by simp) v
 ⟨h.own.other _ v fun k=>(hT k).elim (owns_neObj (h.own.row k) hb) id,h.ty,(hB.block _ (by omega)).trans h.box,(hB.block _ (by omega)).trans h.res,(hB.block _ (by omega)).trans h.nb,h.bel.trans (hB.mono (by omega)),h.sd.below (hB.mono (by omega))⟩
end
end Go.Proofs.YtnoibjahliafpaaDoor
namespace Go.Proofs.YtnoibjahliafpaaDoor.val
open Go.RowKit
def fitI (b:Int) (s:Bool) (v:Int):Int:=
 if b < 1∨32 < b then 0 else
 if s=true∧2 ^ (b.toNat - 1)≤v % 2 ^ b.toNat then v % 2 ^ b.toNat - 2 ^ b.toNat else v % 2 ^ b.toNat
theorem pows (b:Int) (h1:1≤b) (h2:b≤32):∃H:Int,(2:Int) ^ (b.toNat - 1)=H∧ (2:Int) ^ b.toNat=2*H∧1≤H∧H≤2147483648:=by
 have h:b=1∨b=2∨b=3∨b=4∨b=5∨b=6∨b=7∨b=8∨b=9∨b=10∨b=11∨b=12∨b=13∨b=14∨b=15∨b=16∨b=17∨b=18∨b=19∨b=20∨b=21∨b=22∨b=23∨b=24∨b=25∨b=26∨b=27∨b=28∨b=29∨b=30∨b=31∨b=32:=by omega
 refine ⟨_,rfl, ?_⟩;rcases h with h | h | h | h | h | h | h | h | h | h | h | h | h | h | h | h | h | h | h | h | h | h | h | h | h | h | h | h | h | h | h | h <;> subst h <;> decide
theorem bits_low (n:Nat) (hn:n≤32) (v:Int):bits .and .i64 v (2 ^ n - 1)=v % 2 ^ n:=by
 have hpos:0 < 2 ^ n:=Nat.two_pow_pos n;have hle:2 ^ n≤2 ^ 32:=Nat.pow_le_pow_right (by decide) hn;have hc: ((2:Int) ^ n - 1)= ((2 ^ n - 1:Nat):Int):=by
  rw [Int.natCast_sub hpos];simp
 have hd: ((2 ^ n:Nat):Int) ∣ ((18446744073709551616:Nat):Int):=by
  refine Int.natCast_dvd_natCast.2 ?_;exact ⟨2 ^ (64 - n),by rw [←Nat.pow_add];rw [show n+ (64 - n)=64 from by omega]⟩
 have e1: (BitVec.ofInt 64 v).toNat= (v % 18446744073709551616).toNat:=BitVec.toNat_ofInt v;have e2: (2 ^ n - 1) % 18446744073709551616=2 ^ n - 1:=Nat.mod_eq_of_lt (by omega);have e3: (((v % 18446744073709551616).toNat % 2 ^ n:Nat):Int)=v % 2 ^ n:=by
  rw [Int.natCast_emod,Int.toNat_of_nonneg (Int.emod_nonneg _ (by decide))];have:=Int.emod_emod_of_dvd v hd;simpa using this
 have hb: (0:Int)≤v % 2 ^ n:=Int.emod_nonneg _ (by have : (0:Int) < 2 ^ n:=by exact_mod_cast hpos
                                                   omega)
 have hb2:v % 2 ^ n < 4294967296:=by
  have h3: (0:Int) < 2 ^ n:=by exact_mod_cast hpos
  have h4:=Int.emod_lt_of_pos v h3;have h5: (2:Int) ^ n≤4294967296:=by (have h:=Int.ofNat_le.2 hle;rw [Int.natCast_pow] at h;exact h)
  omega
 have e4: (BitVec.ofInt 64 ((2 ^ n - 1:Nat):Int)).toNat=2 ^ n - 1:=by rw [BitVec.ofInt_natCast,BitVec.toNat_ofNat];exact e2
 rw [hc];show IntKind.i64.wrap ((BitVec.ofInt 64 v &&& BitVec.ofInt 64 ((2 ^ n - 1:Nat):Int)).toNat:Int)=_;rw [BitVec.toNat_and,e1,e4,Nat.and_two_pow_sub_one_eq_mod,e3,IntKind.wrap_i64];omega
theorem fit_32 (v:Int):fitI 32 true v=wrap32 v:=by
 unfold fitI wrap32;simp;split <;> omega
theorem fit_fit (b:Int) (s:Bool) (v:Int):fitI b s (fitI b s v)=fitI b s v:=by
 unfold fitI;by_cases h:b < 1∨32 < b
 · simp [h]
 · obtain ⟨H,h1,h2,h3,h4⟩:=pows b (by omega) (by omega);rw [if_neg h,if_neg h];simp only [h1,h2];have p1:=Int.emod_nonneg v (show (2*H:Int)≠0 by omega);have p2:=Int.emod_lt_of_pos v (show (0:Int) < 2*H by omega);have e1:v % (2*H) % (2*H)=v % (2*H):=Int.emod_emod_of_dvd v (Int.dvd_refl _);have e2: (v % (2*H) - 2*H) % (2*H)=v % (2*H):=by rw [Int.sub_emod_right,e1]
   split
   · rename_i hh
     rw [e2,if_pos hh]
   · rename_i hh
     rw [e1,if_neg hh]
theorem fit_range (b:Int) (s:Bool) (v:Int): -2147483648≤fitI b s v∧fitI b s v≤4294967295:=by
 unfold fitI;by_cases h:b < 1∨32 < b
 · simp [h]
 · obtain ⟨H,h1,h2,h3,h4⟩:=pows b (by omega) (by omega);rw [if_neg h];simp only [h1,h2];have p1:=Int.emod_nonneg v (show (2*H:Int)≠0 by omega);have p2:=Int.emod_lt_of_pos v (show (0:Int) < 2*H by omega);split <;> omega
theorem wrap32_range (v:Int): -2147483648≤wrap32 v∧wrap32 v≤2147483647:=by
 unfold wrap32;omega
def shI (a p:Int):Int:=if 32≤p then 0 else if 0≤p then a*2 ^ p.toNat else a / 2 ^ (-p).toNat
theorem shr_any (yk:IntKind) (x y:Int) (hx: -2147483648≤x) (hx':x≤2147483647) (hy:0≤y):
 Op.shift .shr .i64 x yk y=pure (.int .i64 (x / 2 ^ y.toNat)):=by
 by_cases h:y≤64
 · exact shift_shr .i64 yk x y hy (by simp [IntKind.bits];omega)
 · have hm:min y.toNat 64=64:=by omega
   have hk: (IntKind.bits .i64)=64:=rfl;have big: (18446744073709551616:Int)≤2 ^ y.toNat:=by
    have h1:2 ^ 64≤2 ^ y.toNat:=Nat.pow_le_pow_right (by decide) (by omega);have h2:=Int.ofNat_le.2 h1;rw [Int.natCast_pow] at h2;exact h2
   have e:x / 2 ^ y.toNat=x / 18446744073709551616:=by
    by_cases hs:0≤x
    · rw [Int.ediv_eq_zero_of_lt hs (by omega),Int.ediv_eq_zero_of_lt hs (by omega)]
    · rw [Int.ediv_eq_neg_one_of_neg_of_le (by omega) (by omega),Int.ediv_eq_neg_one_of_neg_of_le (by omega) (by omega)]
   have hf:Int.fdiv x (2 ^ 64)=x / 18446744073709551616:=Int.fdiv_eq_ediv_of_nonneg _ (by decide);have hn:¬y < 0:=by omega
   simp only [Op.shift,hk,hm,e,hf,if_neg hn]
end Go.Proofs.YtnoibjahliafpaaDoor.val
namespace Go.Proofs.YtnoibjahliafpaaDoor.val
open Go.RowKit
def b2i (c:Bool):Int:=if c then 1 else 0
def two (op a b:Int):Int × Int:=
 if op=6 then (wrap32 (wrap32 a*wrap32 b),0) else
 if op=7 then (if wrap32 b=0 then (0,48) else (wrap32 ((wrap32 a).tdiv (wrap32 b)),0)) else
 if op=8 then (if wrap32 b=0 then (0,48) else ((wrap32 a).tmod (wrap32 b),0)) else
 if op=9 then (wrap32 (wrap32 a+wrap32 b),0) else
 if op=10 then (wrap32 (wrap32 a - wrap32 b),0) else
 if op=11 then (wrap32 (shI (wrap32 a) (wrap32 b)),0) else
 if op=12 then (wrap32 (shI (wrap32 a) (- wrap32 b)),0) else
 if op=13 then (b2i (decide (wrap32 a < wrap32 b)),0) else
 if op=14 then (b2i (decide (wrap32 a≤wrap32 b)),0) else
 if op=15 then (b2i (decide (wrap32 b < wrap32 a)),0) else
 if op=16 then (b2i (decide (wrap32 b≤wrap32 a)),0) else
 if op=17 then (b2i (wrap32 a == wrap32 b),0) else
 if op=18 then (b2i (wrap32 a != wrap32 b),0) else
 if op=19 then (bits .and .i64 (wrap32 a) (wrap32 b),0) else
 if op=20 then (bits .xor .i64 (wrap32 a) (wrap32 b),0) else
 if op=21 then (bits .or .i64 (wrap32 a) (wrap32 b),0) else (0,42)
theorem two_6 (a b:Int):two 6 a b= (wrap32 (wrap32 a*wrap32 b),0):=rfl
theorem two_7z (a b:Int) (h:wrap32 b=0):two 7 a b= (0,48):=by show (if wrap32 b=0 then _ else _)=_;rw [if_pos h]
theorem two_7 (a b:Int) (h:¬wrap32 b=0):two 7 a b= (wrap32 ((wrap32 a).tdiv (wrap32 b)),0):=by show (if wrap32 b=0 then _ else _)=_;rw [if_neg h]
theorem two_8z (a b:Int) (h:wrap32 b=0):two 8 a b= (0,48):=by show (if wrap32 b=0 then _ else _)=_;rw [if_pos h]
theorem two_8 (a b:Int) (h:¬wrap32 b=0):two 8 a b= ((wrap32 a).tmod (wrap32 b),0):=by show (if wrap32 b=0 then _ else _)=_;rw [if_neg h]
theorem two_9 (a b:Int):two 9 a b= (wrap32 (wrap32 a+wrap32 b),0):=rfl
theorem two_10 (a b:Int):two 10 a b= (wrap32 (wrap32 a - wrap32 b),0):=rfl
theorem two_11 (a b:Int):two 11 a b= (wrap32 (shI (wrap32 a) (wrap32 b)),0):=rfl
theorem two_12 (a b:Int):two 12 a b= (wrap32 (shI (wrap32 a) (- wrap32 b)),0):=rfl
theorem two_13 (a b:Int):two 13 a b= (b2i (decide (wrap32 a < wrap32 b)),0):=rfl
theorem two_14 (a b:Int):two 14 a b= (b2i (decide (wrap32 a≤wrap32 b)),0):=rfl
theorem two_15 (a b:Int):two 15 a b= (b2i (decide (wrap32 b < wrap32 a)),0):=rfl
theorem two_16 (a b:Int):two 16 a b= (b2i (decide (wrap32 b≤wrap32 a)),0):=rfl
theorem two_17 (a b:Int):two 17 a b= (b2i (wrap32 a == wrap32 b),0):=rfl
theorem two_18 (a b:Int):two 18 a b= (b2i (wrap32 a != wrap32 b),0):=rfl
theorem two_19 (a b:Int):two 19 a b= (bits .and .i64 (wrap32 a) (wrap32 b),0):=rfl
theorem two_20 (a b:Int):two 20 a b= (bits .xor .i64 (wrap32 a) (wrap32 b),0):=rfl
theorem two_21 (a b:Int):two 21 a b= (bits .or .i64 (wrap32 a) (wrap32 b),0):=rfl
theorem two_else (op a b:Int) (h:op < 6∨21 < op):two op a b= (0,42):=by
 unfold two
 repeat (rw [if_neg (by omega)])
theorem ofInt_sign (a:Int) (h: -2147483648≤a∧a≤2147483647):BitVec.ofInt 64 a= (BitVec.ofInt 32 a).signExtend 64:=by
 have h1: (BitVec.ofInt 32 a).toInt=a:=by
  rw [BitVec.toInt_ofInt];exact Int.bmod_eq_of_le (by omega) (by omega)
 unfold BitVec.signExtend;rw [h1]
theorem wrap_toInt (x:BitVec 64):IntKind.i64.wrap (x.toNat:Int)=x.toInt:=by
 rw [IntKind.wrap_i64,BitVec.toInt_eq_toNat_cond];have:=x.isLt;split <;> omega
theorem toInt_range (x:BitVec 32): -2147483648≤ (x.signExtend 64).toInt∧ (x.signExtend 64).toInt≤2147483647:=by
 rw [BitVec.toInt_signExtend_of_le (by decide)];have h1:=BitVec.le_toInt x;have h2:=BitVec.toInt_lt (x:=x);simp at h1 h2;omega
theorem and_range (a b:Int) (ha: -2147483648≤a∧a≤2147483647) (hb: -2147483648≤b∧b≤2147483647):
 -2147483648≤bits .and .i64 a b∧bits .and .i64 a b≤2147483647:=by
 have :bits .and .i64 a b= ((BitVec.ofInt 32 a &&& BitVec.ofInt 32 b).signExtend 64).toInt:=by
  rw [BitVec.signExtend_and,←ofInt_sign a ha,←ofInt_sign b hb];exact wrap_toInt _
 rw [this];exact toInt_range _
theorem or_range (a b:Int) (ha: -2147483648≤a∧a≤2147483647) (hb: -2147483648≤b∧b≤2147483647):
 -2147483648≤bits .or .i64 a b∧bits .or .i64 a b≤2147483647:=by
 have :bits .or .i64 a b= ((BitVec.ofInt 32 a ||| BitVec.ofInt 32 b).signExtend 64).toInt:=by
  rw [BitVec.signExtend_or,←ofInt_sign a ha,←ofInt_sign b hb];exact wrap_toInt _
 rw [this];exact toInt_range _
theorem xor_range (a b:Int) (ha: -2147483648≤a∧a≤2147483647) (hb: -2147483648≤b∧b≤2147483647):
 -2147483648≤bits .xor .i64 a b∧bits .xor .i64 a b≤2147483647:=by
 have :bits .xor .i64 a b= ((BitVec.ofInt 32 a ^^^ BitVec.ofInt 32 b).signExtend 64).toInt:=by
  rw [BitVec.signExtend_xor,←ofInt_sign a ha,←ofInt_sign b hb];exact wrap_toInt _
 rw [this];exact toInt_range _
theorem wrap32_in (v:Int) (h: -2147483648≤v∧v≤2147483647):wrap32 v=v:=by unfold wrap32;omega
theorem tmod_range (a b:Int) (hb: -2147483648≤b∧b≤2147483647) (h0:¬b=0):
 -2147483648≤a.tmod b∧a.tmod b≤2147483647:=by
 have h1:=Int.natAbs_tmod a b;have h2:a.natAbs % b.natAbs < b.natAbs:=Nat.mod_lt _ (by omega);omega
theorem tdiv_range (a b:Int) (ha: -2147483648≤a∧a≤2147483647):
 -2147483648≤a.tdiv b∧a.tdiv b≤2147483648:=by
 have h1: (a.tdiv b).natAbs=a.natAbs / b.natAbs:=Int.natAbs_tdiv a b;have h2:=Nat.div_le_self a.natAbs b.natAbs;omega
theorem mul_range (a b:Int) (ha: -2147483648≤a∧a≤2147483647) (hb: -2147483648≤b∧b≤2147483647):
 -4611686018427387904≤a*b∧a*b≤4611686018427387904:=by
 have h1:=Int.natAbs_mul a b;have h2:a.natAbs*b.natAbs≤2147483648*2147483648:=Nat.mul_le_mul (by omega) (by omega);omega
theorem sh_range (a p:Int) (ha: -2147483648≤a∧a≤2147483647):
 -4611686018427387904≤shI a p∧shI a p≤4611686018427387904:=by
 unfold shI;split
 · omega
 · split
   · obtain ⟨H,h1,_,h3,h4⟩:=pows (p+1) (by omega) (by omega);rw [show (p+1).toNat - 1=p.toNat from by omega] at h1;rw [h1];have hn:0≤H:=by omega
     constructor
     · have:=Int.mul_le_mul_of_nonneg_right ha.1 hn;omega
     · have:=Int.mul_le_mul_of_nonneg_right ha.2 hn;omega
   · generalize (-p).toNat=n;have hp: (0:Int) < 2 ^ n:=Int.pow_pos (by decide);generalize (2:Int) ^ n=M at*;constructor
     · have:=Int.le_ediv_of_mul_le hp (show (-2147483648:Int)*M≤a by
        have:=Int.mul_le_mul_of_nonneg_left (show (1:Int)≤M by omega) (show (0:Int)≤2147483648 by decide);omega)
       omega
     · have:=Int.ediv_le_of_le_mul hp (show a≤2147483647*M by
        have:=Int.mul_le_mul_of_nonneg_left (show (1:Int)≤M by omega) (show (0:Int)≤2147483647 by decide);omega)
       omega
theorem flip_is (a:Int) (ha: -2147483648≤a∧a≤2147483647):bits .xor .i64 (-1) a= - a - 1:=by
 have h1: (BitVec.ofInt 64 (-1) ^^^ BitVec.ofInt 64 a)= ~~~ (BitVec.ofInt 64 a):=by
  rw [show BitVec.ofInt 64 (-1)=BitVec.allOnes 64 from by decide,BitVec.allOnes_xor]
 have h2:bits .xor .i64 (-1) a= (~~~ (BitVec.ofInt 64 a)).toInt:=by rw [←h1];exact wrap_toInt _
 have h3: (BitVec.ofInt 64 a).toInt=a:=by
  rw [BitVec.toInt_ofInt];exact Int.bmod_eq_of_le (by omega) (by omega)
 have h4:=BitVec.toInt_eq_toNat_cond (BitVec.ofInt 64 a);have h5:=BitVec.toInt_eq_toNat_cond (~~~ (BitVec.ofInt 64 a));have h6: (~~~ (BitVec.ofInt 64 a)).toNat=18446744073709551616 - 1 - (BitVec.ofInt 64 a).toNat:=BitVec.toNat_not;have h7:=(BitVec.ofInt 64 a).isLt;rw [h2,h5,h6];rw [h3] at h4;generalize (BitVec.ofInt 64 a).toNat=n at*;split <;> split at h4 <;> omega
def one (op a:Int):Int × Int:=
 if op=3 then (wrap32 (- wrap32 a),0) else if op=4 then (b2i (wrap32 a == 0),0) else if op=5 then (- wrap32 a - 1,0) else (0,42)
theorem one_3 (a:Int):one 3 a= (wrap32 (- wrap32 a),0):=rfl
theorem one_4 (a:Int):one 4 a= (b2i (wrap32 a == 0),0):=rfl
theorem one_5 (a:Int):one 5 a= (- wrap32 a - 1,0):=rfl
theorem one_else (op a:Int) (h:op < 3∨5 < op):one op a= (0,42):=by
 unfold one;rw [if_neg (by omega),if_neg (by omega),if_neg (by omega)]
theorem wrap32_congr (a b k:Int) (h:a=b+k*4294967296):wrap32 a=wrap32 b:=by unfold wrap32;omega
theorem shl_step (a:Int) (k:Nat):wrap32 (2*wrap32 (a*2 ^ k))=wrap32 (a*2 ^ (k+1)):=by
 have e:a*2 ^ (k+1)=2* (a*2 ^ k):=by rw [Int.pow_succ];rw [←Int.mul_assoc,Int.mul_comm]
 rw [e];generalize a*2 ^ k=x;unfold wrap32;omega
theorem shl_zero (a:Int) (k j:Nat) (h:wrap32 (a*2 ^ k)=0) (hj:k≤j):wrap32 (a*2 ^ j)=0:=by
 obtain ⟨d,rfl⟩:∃d,j=k+d:=⟨j - k,by omega⟩;rw [Int.pow_add,←Int.mul_assoc];generalize a*2 ^ k=x at*;obtain ⟨m,rfl⟩:∃m,x=m*4294967296:=⟨x / 4294967296,by unfold wrap32 at h;omega⟩;rw [Int.mul_right_comm];rw [wrap32_congr (m*2 ^ d*4294967296) 0 (m*2 ^ d) (by omega)];exact wrap32_in 0 (by decide)
theorem shl_great (a:Int) (j:Nat) (hj:32≤j):wrap32 (a*2 ^ j)=0:=
 shl_zero a 32 j (by rw [wrap32_congr (a*2 ^ 32) 0 a (by simp)];exact wrap32_in 0 (by decide)) hj
theorem sh_left (a p:Int) (h:0≤p):wrap32 (shI a p)=wrap32 (a*2 ^ p.toNat):=by
 unfold shI;split
 · rw [shl_great a _ (by omega)];exact wrap32_in 0 (by decide)
 · rfl
theorem shr_step (a:Int) (k:Nat):a / 2 ^ (k+1)=a / 2 ^ k / 2:=by
 rw [Int.pow_succ,Int.ediv_ediv_of_nonneg];exact Int.pow_nonneg (by decide)
theorem shr_stays (a:Int) (k j:Nat) (hk:a / 2 ^ k=0∨a / 2 ^ k= -1) (hj:k≤j):a / 2 ^ j=a / 2 ^ k:=by
 obtain ⟨d,rfl⟩:∃d,j=k+d:=⟨j - k,by omega⟩;clear hj
 induction d with
 | zero=>rfl
 | succ d ih=>
   rw [←Nat.add_assoc,shr_step,ih];omega
theorem half (x:Int): (x < 0→ (x - 1).tdiv 2=x / 2)∧ (0≤x→x.tdiv 2=x / 2):=by
 constructor
 · intro h;have h1:=Int.tdiv_eq_ediv (a:=x - 1) (b:=2);have hs:Int.sign 2=1:=rfl;rw [h1,hs];split <;> omega
 · intro h;exact Int.tdiv_eq_ediv_of_nonneg h
theorem shr_range (a:Int) (k:Nat) (ha: -2147483648≤a∧a≤2147483647): -2147483648≤a / 2 ^ k∧a / 2 ^ k≤2147483647:=by
 have hp: (0:Int) < 2 ^ k:=Int.pow_pos (by decide);generalize (2:Int) ^ k=M at*;constructor
 · exact Int.le_ediv_of_mul_le hp (by
    have:=Int.mul_le_mul_of_nonneg_left (show (1:Int)≤M by omega) (show (0:Int)≤2147483648 by decide);omega)
 · exact Int.ediv_le_of_le_mul hp (by
    have:=Int.mul_le_mul_of_nonneg_left (show (1:Int)≤M by omega) (show (0:Int)≤2147483647 by decide);omega)
theorem sh_right (a p:Int) (h:p < 0) (ha: -2147483648≤a∧a≤2147483647):wrap32 (shI a p)=a / 2 ^ (-p).toNat:=by
 have hr:=shr_range a (-p).toNat ha;unfold shI;rw [if_neg (by omega),if_neg (by omega)];exact wrap32_in _ hr
end Go.Proofs.YtnoibjahliafpaaDoor.val
