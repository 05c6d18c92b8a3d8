/- The program's reader of a state: a channel. -/
import Derived.Test.YtnoibjahliafpaaDoorM25
import Derived.Deep.RegionLaw
set_option linter.unusedVariables false
set_option linter.unusedSimpArgs false
namespace Go.Proofs.YtnoibjahliafpaaDoor
open Go.ChangeShapes Go.WideShapes Go.ChangeAt Go.RowKit
theorem owns_type {w:World} {B:Nat} {e:TypeId} {size n:Nat} {v:Value} {xs:List Value} (h:w.ownsRow B e size v n xs):∀g,v.ownBlock=some g→∃c fz,w.heap[g]? =some (.cells c e fz):=by
 intro g hg;rcases h.2 with ⟨rfl,_⟩ | ⟨g',cap,cur,rfl,_,hgg,_⟩
 · simp [Value.ownBlock] at hg
 · simp [Value.ownBlock] at hg;subst hg;exact ⟨cur,(0,0),hgg⟩
theorem owns_ne {w:World} {B B':Nat} {e e':TypeId} {size size' n n':Nat} {v v':Value} {xs xs':List Value} (h:w.ownsRow B e size v n xs) (h':w.ownsRow B' e' size' v' n' xs') (he:e≠e'):v.ownBlock=none∨v.ownBlock≠v'.ownBlock:=by
 cases hv:v.ownBlock with
 | none=>exact .inl rfl
 | some g=>
   right;intro e2;obtain ⟨c,fz,h3⟩:=owns_type h' g e2.symm;exact owns_neObj h h3 he hv
def QR (B:Nat) (W:World) (o:Option Addr) (c:Nat) (q:List (List Int)):Prop:=
 ∃ys,W.ownsRow B 75 1 (.slice o q.length c) q.length ys∧∀j (hj:j < q.length),∃o2 c2,ys[j]? =some (.slice o2 q[j].length c2)∧W.ownsRow B 2 1 (.slice o2 q[j].length c2) q[j].length (intsV q[j])
theorem QR.nil (B:Nat) (W:World) (o:Option Addr) (c:Nat) (h:Value.slice o 0 c= .slice none 0 0):QR B W o c []:=by
 injection h with h1 h2 h3
 subst h1 h3;exact ⟨[],World.ownsRow_nil _ _ _ _,fun j hj=>absurd hj (by simp)⟩
theorem QR.mono {B B':Nat} {W:World} {o:Option Addr} {c:Nat} {q:List (List Int)} (h:QR B W o c q) (hB:B'≤B):QR B' W o c q:=by
 obtain ⟨ys,h1,h2⟩:=h;exact ⟨ys,Joins.ownsRow_le h1 hB,fun j hj=>by
  obtain ⟨o2,c2,h3,h4⟩:=h2 j hj;exact ⟨o2,c2,h3,Joins.ownsRow_le h4 hB⟩⟩
theorem QR.gb {B b:Nat} {W W1:World} {o:Option Addr} {c:Nat} {q:List (List Int)} (h:QR B W o c q) (hg:W.grownBy W1 (some b)) (hb:b < B):QR B W1 o c q:=by
 obtain ⟨ys,h1,h2⟩:=h;exact ⟨ys,h1.kept hg (.inr fun e=>by have:=(h1.lt _ e).1;omega),fun j hj=>by
  obtain ⟨o2,c2,h3,h4⟩:=h2 j hj;exact ⟨o2,c2,h3,h4.kept hg (.inr fun e=>by have:=(h4.lt _ e).1;omega)⟩⟩
theorem QR.set {B b:Nat} {W:World} {o:Option Addr} {c:Nat} {q:List (List Int)} {cs:Array Value} {T:TypeId} {fr:Nat × Nat} (h:QR B W o c q) (hb:W.heap[b]? =some (.cells cs T fr)) (h1:75≠T) (h2:2≠T) (i:Nat) (v:Value):QR B (W.setCell ⟨b,i,none⟩ v) o c q:=by
 obtain ⟨ys,h3,h4⟩:=h;exact ⟨ys,owns_set h3 _ _ (owns_neObj h3 hb h1),fun j hj=>by
  obtain ⟨o2,c2,h5,h6⟩:=h4 j hj;exact ⟨o2,c2,h5,owns_set h6 _ _ (owns_neObj h6 hb h2)⟩⟩
theorem QR.grow {B B':Nat} {W W1:World} {o:Option Addr} {c:Nat} {q:List (List Int)} {e:TypeId} {size n:Nat} {v:Value} {xs:List Value} (h:QR B W o c q) (hr:W.ownsRow B' e size v n xs) (hg:W.grownBy W1 v.ownBlock) (h1:75≠e) (h2:2≠e):QR B W1 o c q:=by
 obtain ⟨ys,h3,h4⟩:=h;exact ⟨ys,h3.kept hg (owns_ne h3 hr h1),fun j hj=>by
  obtain ⟨o2,c2,h5,h6⟩:=h4 j hj;exact ⟨o2,c2,h5,h6.kept hg (owns_ne h6 hr h2)⟩⟩
theorem QR.below {B:Nat} {W W1:World} {o:Option Addr} {c:Nat} {q:List (List Int)} (h:QR B W o c q) (hb:Below W.heap.size W W1):QR B W1 o c q:=by
 obtain ⟨ys,h3,h4⟩:=h;exact ⟨ys,owns_below h3 hb,fun j hj=>by
  obtain ⟨o2,c2,h5,h6⟩:=h4 j hj;exact ⟨o2,c2,h5,owns_below h6 hb⟩⟩
structure RM (rb mb lb:Nat) (h:MH) (m:ModelD) (W:World):Prop where
 box:W.heap[mb]? =some (.cells (mCells h m) 29 (0,0))
 md:MD lb W h m
 ne:mb≠rb
 le:lb≤rb
theorem RM.below {rb mb lb:Nat} {h:MH} {m:ModelD} {W W1:World} (k:RM rb mb lb h m W) (hl:rb < W.heap.size) (hb:Below W.heap.size W W1):RM rb mb lb h m W1:=
 ⟨(hb.block _ (lt_of_block k.box)).trans k.box,k.md.below (hb.mono (by have:=k.le;omega)),k.ne,k.le⟩
theorem RM.gb {rb mb lb:Nat} {h:MH} {m:ModelD} {W W1:World} (k:RM rb mb lb h m W) (hl:rb < W.heap.size) (hg:W.grownBy W1 (some rb)):RM rb mb lb h m W1:=
 ⟨gb_heap hg k.box k.ne,k.md.below (gb_low hg k.le hl),k.ne,k.le⟩
theorem RM.other {rb mb lb b:Nat} {h:MH} {m:ModelD} {W W1:World} (k:RM rb mb lb h m W) (hb:rb < b) (hmb:mb≠b) (hl:b < W.heap.size) (hg:W.grownBy W1 (some b)):RM rb mb lb h m W1:=
 ⟨gb_heap hg k.box hmb,k.md.below (gb_low hg (by have:=k.le;omega) hl),k.ne,k.le⟩
theorem RM.cell {rb mb lb:Nat} {h:MH} {m:ModelD} {W:World} (k:RM rb mb lb h m W) {i:Nat} {v:Value} (hv: (mCells h m)[i]? =some v):W.cell? ⟨mb,i,none⟩=some v:=(cell_of_row _ _ _ _ _ _ k.box).trans hv
theorem nx_wrong (r:RdS) (h: (nxF r).2.wrong=false):r.wrong=false:=by
 obtain ⟨l,w⟩:=r;cases l with
 | nil=>simp [nxF] at h
 | cons v t=>exact h
theorem be_ok {most:Int} {r:RdS} (h: (beF most r).2.wrong=false):r.wrong=false∧0≤ (beF most r).1∧ (beF most r).1 < most:=by
 unfold beF at h ⊢;split
 · rename_i h1
   rw [if_pos h1] at h;cases h
 · rename_i h1
   rw [if_neg h1] at h;exact ⟨nx_wrong r h,by omega,by omega⟩
theorem be_range {most:Int} (hm:0≤most) (r:RdS):0≤ (beF most r).1∧ (beF most r).1≤most:=by
 unfold beF;split
 · exact ⟨by simp,by simpa using hm⟩
 · omega
theorem qu_len (f:Nat):∀ (n:Nat) (r:RdS),(quF f n r).1.length=n
 | 0,r=>rfl
 | n+1,r=>by simp [quF,qu_len f n r]
theorem li_len:∀ (n:Nat) (r:RdS),(liF n r).1.length=n
 | 0,r=>rfl
 | n+1,r=>by simp [liF,li_len n r]
def ChP (rb mb lb:Nat) (x:ChanD × RdS) (W:World) (e:Ending) (W':World):Prop:=
 ∃qo qc,e= .returned (.agg #[.int .i64 x.1.shape,.slice qo x.1.queue.length qc])∧QR W.heap.size W' qo qc x.1.queue∧RX rb mb lb x.2 W'∧W.grownBy W' (some rb)
structure CL (W0:World) (rb mb lb cb ob:Nat) (h:MH) (m:ModelD) (sh:Int) (q:List (List Int)) (r:RdS) (qo:Option Addr) (qc:Nat) (W:World):Prop where
 qr:QR (W0.heap.size) W qo qc q
 c:W.heap[cb]? =some (.cells #[.int .i64 sh,.slice qo q.length qc] 61 (0,0))
 o:W.heap[ob]? =some (.cells #[.int .i64 0,.slice none 0 0] 61 (0,0))
 x:RX rb mb lb r W
 m:RM rb mb lb h m W
 g:W0.grownBy W (some rb)
 rl:rb < W0.heap.size
 cl:W0.heap.size≤cb
 ol:W0.heap.size≤ob
 ne:ob≠cb
theorem CL.below {W0 W W1:World} {rb mb lb cb ob:Nat} {h:MH} {m:ModelD} {sh:Int} {q:List (List Int)} {r:RdS} {qo:Option Addr} {qc:Nat} (k:CL W0 rb mb lb cb ob h m sh q r qo qc W) (hb:Below W.heap.size W W1):CL W0 rb mb lb cb ob h m sh q r qo qc W1:=
 ⟨k.qr.below hb,(hb.block _ (lt_of_block k.c)).trans k.c,(hb.block _ (lt_of_block k.o)).trans k.o,k.x.below hb,k.m.below k.x.lt hb,gb_trans k.g (gb_below hb),k.rl,k.cl,k.ol,k.ne⟩
theorem CL.read {W0 W W1:World} {rb mb lb cb ob:Nat} {h:MH} {m:ModelD} {sh:Int} {q:List (List Int)} {r r1:RdS} {qo:Option Addr} {qc:Nat} (k:CL W0 rb mb lb cb ob h m sh q r qo qc W) (hx:RX rb mb lb r1 W1) (hg:W.grownBy W1 (some rb)):CL W0 rb mb lb cb ob h m sh q r1 qo qc W1:=
 have h1:=k.rl;have h2:=k.cl;have h3:=k.ol
 ⟨k.qr.gb hg h1,gb_heap hg k.c (by omega),gb_heap hg k.o (by omega),hx,k.m.gb k.x.lt hg,gb_trans k.g hg,k.rl,k.cl,k.ol,k.ne⟩
theorem CL.step {W0 W W3:World} {rb mb lb cb ob:Nat} {h:MH} {m:ModelD} {sh:Int} {q:List (List Int)} {r:RdS} {qo:Option Addr} {qc:Nat} {l:List Int} {lo:Option Addr} {lc:Nat} {ys:List Value} {ob':Obj} (k:CL W0 rb mb lb cb ob h m sh q r qo qc W)
 (hq:W.ownsRow W0.heap.size 75 1 (.slice qo q.length qc) q.length ys) (hqm:∀j (hj:j < q.length),∃o2 c2,ys[j]? =some (.slice o2 q[j].length c2)∧W.ownsRow W0.heap.size 2 1 (.slice o2 q[j].length c2) q[j].length (intsV q[j]))
 (hl:W.ownsRow W0.heap.size 2 1 (.slice lo l.length lc) l.length (intsV l)) {qo':Option Addr} {qc':Nat} (hg: (W.alloc ob').grownBy W3 (Value.slice qo q.length qc).ownBlock)
 (hr:W3.ownsRow W0.heap.size 75 1 (.slice qo' (q.length+1) qc') (q.length+1) (ys ++ [.slice lo l.length lc])):
 CL W0 rb mb lb cb ob h m sh (q ++ [l]) r qo' qc' (W3.setCell ⟨cb,1,none⟩ (.slice qo' (q.length+1) qc')):=by
 have hA:=k.below (ball ob');have hq':=hq.alloc ob';have h1:=k.rl;have h2:=k.cl;have h3:=k.ol;have hrow:=k.x.lt;have hgs:=k.g.size;have hlow:Below W0.heap.size (W.alloc ob') W3:=(Below.refl _ _).grown hg (by simp;omega) (fun p hp=>(hq'.lt p hp).1);have hobj:∀ {p:Nat} {cs:Array Value} {T:TypeId},(W.alloc ob').heap[p]? =some (.cells cs T (0,0))→75≠T→W3.heap[p]? =some (.cells cs T (0,0)):=fun {p cs T} hp hT=>
  (hg.block p (lt_of_block hp) (fun e=>owns_neObj hq' hp hT e.symm)).trans hp
 have hc3:=hobj hA.c (by simp);have ho3:=hobj hA.o (by simp);have hlen:ys.length=q.length:=by have:=hq.1;omega
 have hx3:RX rb mb lb r W3:=by
  obtain ⟨a,b,c1,c2,c3⟩:=hA.x.blk;have:=hA.x.le;exact ⟨⟨a,b,(hlow.block _ h1).trans c1,c2.mono fun _ _ _ hgl=>intAt.below (hlow.mono (by omega)) hgl,c3⟩,hA.x.le⟩
 have hm3:RM rb mb lb h m W3:=⟨hobj hA.m.box (by simp),hA.m.md.below (hlow.mono (by have:=hA.m.le;omega)),hA.m.ne,hA.m.le⟩;have hgs3:W0.grownBy W3 (some rb):=⟨hlow.os.trans hA.g.os,hlow.tape.trans hA.g.tape,hlow.output.trans hA.g.output,Nat.le_trans hA.g.size hlow.size,fun p hp hne=>(hlow.block p hp).trans (hA.g.block p hp hne)⟩;have hset:Below cb W3 (W3.setCell ⟨cb,1,none⟩ (.slice qo' (q.length+1) qc')):=(Below.refl cb W3).setCell (p:=⟨cb,1,none⟩) (Nat.le_refl _) _;have hgset:W3.grownBy (W3.setCell ⟨cb,1,none⟩ (.slice qo' (q.length+1) qc')) (some cb):=gb_set _ _ _ _;have hl3:W3.ownsRow W0.heap.size 2 1 (.slice lo l.length lc) l.length (intsV l):=(hl.alloc ob').kept hg (owns_ne (hl.alloc ob') hq' (by simp));refine ⟨⟨ys ++ [.slice lo l.length lc], ?_,fun j hj=> ?_⟩, ?_,gb_heap hgset ho3 k.ne,hx3.other hgset (by omega),hm3.other (by omega) (fun e=> ?_) (lt_of_block hc3) hgset,⟨hgset.os.trans hgs3.os,hgset.tape.trans hgs3.tape,hgset.output.trans hgs3.output,Nat.le_trans hgs3.size hgset.size,fun p hp hne=>(hset.block p (by omega)).trans (hgs3.block p hp hne)⟩,k.rl,k.cl,k.ol,k.ne⟩
 · rw [List.length_append,List.length_singleton];exact owns_set hr _ _ (owns_neObj hr hc3 (by simp))
 · rw [List.length_append,List.length_singleton] at hj;by_cases e:j < q.length
   · obtain ⟨o2,c2,h5,h6⟩:=hqm j e;have e1: (q ++ [l])[j]=q[j]:=List.getElem_append_left e;rw [e1];have h7:=(h6.alloc ob').kept hg (owns_ne (h6.alloc ob') hq' (by simp));exact ⟨o2,c2,by rw [List.getElem?_append_left (by omega)];exact h5,owns_set h7 _ _ (owns_neObj h7 hc3 (by simp))⟩
   · obtain rfl:j=q.length:=by omega
     have e1: (q ++ [l])[q.length]=l:=by simp
     rw [e1];exact ⟨lo,lc,by rw [List.getElem?_append_right (by omega),hlen];simp,owns_set hl3 _ _ (owns_neObj hl3 hc3 (by simp))⟩
 · rw [List.length_append,List.length_singleton];exact (heap_setCell_same _ _ _ _ _ _ hc3).trans rfl
 · have:=hm3.box;rw [e,hc3] at this;simp at this
end Go.Proofs.YtnoibjahliafpaaDoor
namespace Go.Proofs.YtnoibjahliafpaaDoor
open Go.ChangeShapes Go.WideShapes Go.ChangeAt Go.RowKit
theorem gbD {W W1:World} {row:Option Nat} (h:W.grownBy W1 row):W.grownBy W1.drew row:=gb_trans h (gb_below (Below.refl _ _).drew)
theorem gbA {W W1:World} {row:Option Nat} (h:W.grownBy W1 row) (o:Obj):W.grownBy (W1.alloc o) row:=gb_trans h (gb_below (ball o))
set_option maxRecDepth 100000 in
set_option maxHeartbeats 4000000 in
theorem channelC {rb mb lb:Nat} {h:MH} {m:ModelD} {r:RdS} (W:World) (hx:RX rb mb lb r W) (hm:RM rb mb lb h m W) (hf:∀s ∈ m.shapes,s.fields.length≤8):
 Calls Tryd.prog 36 #[.pointer (some ⟨rb,0,none⟩)] W (ChP rb mb lb (chF m r) W):=by
 have HX:=Lib.hid hx;have HM:=Lib.hid hm;have HF:=Lib.hid hf;have hsl:=hm.md.shapes.1;clear hx hm hf;have HX1:=Lib.hid (HX.out.below (ball (.cells #[.int .i64 0,.slice none 0 0] 61)));have HM1:=Lib.hid (HM.out.below HX.out.lt (ball (.cells #[.int .i64 0,.slice none 0 0] 61)));have HO1:Hid ((W.alloc (.cells #[.int .i64 0,.slice none 0 0] 61)).heap[W.heap.size]? =some (.cells #[.int .i64 0,.slice none 0 0] 61 (0,0))):=Lib.hid (heap_alloc_new _ _);have HG1:Hid (W.grownBy (W.alloc (.cells #[.int .i64 0,.slice none 0 0] 61)) (some rb)):=Lib.hid (gb_below (ball _));go_enter Tryd.func36,Tryd.ntmps36;go_upto_region 1 with fail
 generalize W.alloc (.cells #[.int .i64 0,.slice none 0 0] 61)=W1 at HX1 HM1 HO1 HG1 ⊢;have c0:=HX1.out.c0;have m2:W1.cell? ⟨mb,2,none⟩=some (.slice h.so m.shapes.length h.sc):=HM1.out.cell rfl;have HBL:=Lib.hid (belowC (m.shapes.length:Int) HX1.out);have HR1:=Lib.hid (be_range (most:=(m.shapes.length:Int)) (by omega) r);obtain ⟨sh,hsh⟩:∃v,(beF (m.shapes.length:Int) r).1=v:=⟨_,rfl⟩;obtain ⟨r1,hr1⟩:∃v,(beF (m.shapes.length:Int) r).2=v:=⟨_,rfl⟩;have HE1:Hid (beF (m.shapes.length:Int) r= (sh,r1)):=Lib.hid (by rw [←hsh,←hr1]);rw [hsh,hr1] at HBL;clear hsh hr1;go_wp2_with fail;refine HBL.out.mono ?_;rintro e W2 ⟨rfl,hx2,hg2⟩;have HX2:=Lib.hid hx2;have HG2:=Lib.hid hg2;clear hx2 hg2 HBL c0 m2;have HL0:Hid (CL W rb mb lb W2.heap.size W.heap.size h m sh [] r1 none 0 (W2.alloc (.cells #[.int .i64 sh,.slice none 0 0] 61))):=Lib.hid (by
  have hb:Below W2.heap.size W2 (W2.alloc (.cells #[.int .i64 sh,.slice none 0 0] 61)):=ball _;have hrl:=HX.out.lt;have ho2:=gb_heap HG2.out HO1.out (by omega);have hg:=gb_trans HG1.out HG2.out;exact ⟨QR.nil _ _ _ _ rfl,heap_alloc_new _ _,(hb.block _ (lt_of_block ho2)).trans ho2,HX2.out.below hb,(HM1.out.gb HX1.out.lt HG2.out).below HX2.out.lt hb,gb_trans hg (gb_below hb),hrl,hg.size,Nat.le_refl _,by have:=lt_of_block ho2;omega⟩)
 obtain ⟨cb,hcb⟩:∃b,W2.heap.size=b:=⟨_,rfl⟩;obtain ⟨ob,hob⟩:∃b,W.heap.size=b:=⟨_,rfl⟩;rw [hcb] at HL0;have HOB:=Lib.hid hob;go_upto_region 2 with fail
 try rw [hcb]
 try rw [hob]
 rw [hob] at HL0;clear hcb hob HX1 HM1 HO1 HG1 HX2 HG2;generalize W2.alloc (.cells #[.int .i64 sh,.slice none 0 0] 61)=W3 at HL0 ⊢;have HBL:=Lib.hid (belowC 17 HL0.out.x);have HR2:=Lib.hid (be_range (most:=17) (by omega) r1);have HOK2:=Lib.hid (fun hw=>be_ok (most:=17) (r:=r1) hw);obtain ⟨n,hn⟩:∃v,(beF 17 r1).1=v:=⟨_,rfl⟩;obtain ⟨r2,hr2⟩:∃v,(beF 17 r1).2=v:=⟨_,rfl⟩;have HE2:Hid (beF 17 r1= (n,r2)):=Lib.hid (by rw [←hn,←hr2]);rw [hn] at HR2 HOK2 HBL;rw [hr2] at HOK2 HBL;clear hn hr2;go_upto_region 3 with (refine HBL.out.mono ?_;rintro e W4 ⟨rfl,hx4,hg4⟩;have HL4:=Lib.hid (HL0.out.read hx4 hg4);clear hx4 hg4)
 clear HBL HL0;obtain ⟨x2,f2⟩:=HL4.out.x.c2;obtain ⟨wv,hwv⟩:∃b,r2.wrong=b:=⟨_,rfl⟩;have HW:=Lib.hid hwv;rw [hwv] at x2;clear hwv;have HCF:Hid (chF m r=if wv=true then (⟨sh,[]⟩,r2) else (⟨sh,(quF (fieldsN m sh) n.toNat r2).1⟩,(quF (fieldsN m sh) n.toNat r2).2)):=Lib.hid (by
  unfold chF;rw [HE1.out];simp only;rw [HE2.out];simp only;rw [HW.out])
 cases wv;rotate_left
 · have y0:W4.cell? ⟨cb,0,none⟩=some (.int .i64 sh):=(cell_of_row _ _ 0 _ _ _ HL4.out.c).trans rfl;have y1:W4.cell? ⟨cb,1,none⟩=some (.slice none 0 0):=(cell_of_row _ _ 1 _ _ _ HL4.out.c).trans rfl;have z0:W4.cell? ⟨ob,0,none⟩=some (.int .i64 0):=(cell_of_row _ _ 0 _ _ _ HL4.out.o).trans rfl;have z1:W4.cell? ⟨ob,1,none⟩=some (.slice none 0 0):=(cell_of_row _ _ 1 _ _ _ HL4.out.o).trans rfl;have g0:W4.frozen? ⟨ob,0,none⟩=false:=frozen_of_row _ _ _ _ _ HL4.out.o;have g1:W4.frozen? ⟨ob,1,none⟩=false:=frozen_of_row _ _ _ _ _ HL4.out.o;have HZ:Hid (ChP rb mb lb (chF m r) W (.returned (.agg #[.int .i64 sh,.slice none 0 0])) ((W4.setCell ⟨ob,0,none⟩ (.int .i64 sh)).setCell ⟨ob,1,none⟩ (.slice none 0 0))):=Lib.hid (by
    rw [HCF.out,if_pos rfl];have e1:=gb_set W4 ob 0 (.int .i64 sh);have e2:=gb_set (W4.setCell ⟨ob,0,none⟩ (.int .i64 sh)) ob 1 (.slice none 0 0);have e3:=gb_trans e1 e2;have hol:=HL4.out.ol;have hrl:=HL4.out.rl;exact ⟨none,0,rfl,QR.nil _ _ _ _ rfl,HL4.out.x.other e3 (by omega),⟨e3.os.trans HL4.out.g.os,e3.tape.trans HL4.out.g.tape,e3.output.trans HL4.out.g.output,Nat.le_trans HL4.out.g.size e3.size,fun p hp hne=>(e3.block p (Nat.lt_of_lt_of_le hp HL4.out.g.size) (by simp;omega)).trans (HL4.out.g.block p hp hne)⟩⟩)
   go_wp2_with fail;refine bodyPost_ret (v:= .agg #[.int .i64 sh,.slice none 0 0]) (by simp [results,Tryd.results36,go_sem,z0,z1,y0,y1,g0,g1]) rfl ?_;exact HZ.out
 · obtain ⟨w1,hn0,hn17⟩:=HOK2.out HW.out;have hsb:=be_ok (most:=(m.shapes.length:Int)) (r:=r) (by rw [HE1.out];exact w1);rw [HE1.out] at hsb;obtain ⟨-,hsh0,hsh1⟩:=hsb;simp only at hsh0 hsh1;obtain ⟨k,rfl⟩:∃k:Nat,n=k:=⟨n.toNat,by omega⟩;obtain ⟨sk,rfl⟩:∃k:Nat,sh=k:=⟨sh.toNat,by omega⟩;have hskl:sk < m.shapes.length:=by omega
   obtain ⟨p,hp⟩:∃p,m.shapes[sk]? =some p:=⟨_,List.getElem?_eq_getElem hskl⟩;have hfn:fieldsN m (sk:Int)=p.fields.length:=by unfold fieldsN;rw [Int.toNat_natCast,hp];rfl
   have hf8:=HF.out p (List.mem_of_getElem? hp);obtain ⟨f,hfe⟩:∃f,p.fields.length=f:=⟨_,rfl⟩;have HP:=Lib.hid hp;have HFE:=Lib.hid hfe;have HCF2:Hid (chF m r= (⟨(sk:Int),(quF f k r2).1⟩,(quF f k r2).2)):=Lib.hid (by rw [HCF.out,if_neg (by simp),hfn,hfe,Int.toNat_natCast]);rw [hfe] at hf8;obtain ⟨so,hso⟩:∃o,h.so=o:=⟨_,rfl⟩;have HSO:=Lib.hid hso;have HL5:Hid (∃qo qc,CL W rb mb lb cb ob h m (sk:Int) (quF f 0 r2).1 (quF f 0 r2).2 qo qc W4):=Lib.hid ⟨_,_,HL4.out⟩;obtain ⟨im,hi1,hi2,hi3,hi4⟩:=info_parts (show (Tryd.prog.info? 75).map (fun i=>(i.zero,i.size,i.bytes))=some (some (.slice none 0 0),1,24) by kernel_rfl);have HI:=Lib.hid (And.intro hi1 (And.intro hi2 (And.intro hi3 hi4)));have hk16: (k:Int) < 17:=hn17;have hsk1: (sk:Int) < m.shapes.length:=hsh1;have hsk0: (0:Int)≤sk:=hsh0;clear hp hfn hfe hso HCF HL4 HE2 HOK2 HR2 HR1 hi1 hi2 hi3 hi4 w1 hn0 hn17 hsh0 hsh1;go_wp2_with fail;clear x2 f2
   go_loopw [24] (fun iv W5=>∃i:Nat,iv= .int .i64 i∧i≤k∧Hid (∃qo qc,CL W rb mb lb cb ob h m (sk:Int) (quF f i r2).1 (quF f i r2).2 qo qc W5)) (fun iv _=>k - (intOf iv).toNat)
   case atStart=>exact ⟨0,rfl,by omega,HL5⟩
   case round=>
    clear HL5;obtain ⟨i,rfl,hi,HLX⟩:=hrel;obtain ⟨qo,qc,hcl⟩:=HLX.out;have HL:=Lib.hid hcl;clear hcl HLX;have hi0: (0:Int)≤i:=by omega
    by_cases hlt:i < k
    · have hlti: (i:Int) < k:=by omega
      have hql:=qu_len f i r2;obtain ⟨Q,hQ⟩:∃Q,(quF f i r2).1=Q:=⟨_,rfl⟩;obtain ⟨r3,hr3⟩:∃r3,(quF f i r2).2=r3:=⟨_,rfl⟩;rw [hQ] at hql;rw [hQ,hr3] at HL;have HST1:Hid (quF f (i+1) r2= (Q ++ [(liF f r3).1],(liF f r3).2)):=Lib.hid (by rw [quF,hQ,hr3]);have HFL:=Lib.hid (li_len f r3);obtain ⟨l,hl⟩:∃l,(liF f r3).1=l:=⟨_,rfl⟩;obtain ⟨r4,hr4⟩:∃l,(liF f r3).2=l:=⟨_,rfl⟩;have HLI:=Lib.hid (listC f (W:=wr.drew) (by omega) (HL.out.x.below (Below.refl _ _).drew));rw [hl,hr4] at HST1 HLI;rw [hl] at HFL;have HQL:=Lib.hid hql;have hql17:Q.length≤17:=by omega
      obtain ⟨gs,offs,ho,hgs,hsa⟩:=HL.out.m.md.shapes.get HP.out;obtain ⟨fo,fc,e1,-⟩:=hsa.fields;rw [HFE.out] at e1;have m2:wr.cell? ⟨mb,2,none⟩=some (.slice h.so m.shapes.length h.sc):=HL.out.m.cell rfl;rw [ho] at m2;have c0:=HL.out.x.c0;have y0:wr.cell? ⟨cb,0,none⟩=some (.int .i64 (sk:Int)):=(cell_of_row _ _ 0 _ _ _ HL.out.c).trans rfl;have y1:∀W',wr.grownBy W' (some rb)→W'.cell? ⟨cb,1,none⟩=some (.slice qo Q.length qc):=fun W' hg=>(cell_of_row _ _ 1 _ _ _ (gb_heap hg HL.out.c (by have:=HL.out.rl;have:=HL.out.cl;omega))).trans rfl
      have y2:∀W',wr.grownBy W' (some rb)→W'.frozen? ⟨cb,1,none⟩=false:=fun W' hg=>frozen_of_row _ _ _ _ _ (gb_heap hg HL.out.c (by have:=HL.out.rl;have:=HL.out.cl;omega))
      have hR:wr.grownBy wr (some rb):=gb_refl _ _;have hD:wr.grownBy wr.drew (some rb):=gbD (gb_refl _ _);have hAD:∀W',wr.grownBy W' (some rb)→wr.grownBy W'.drew (some rb):=fun W' hg=>gbD hg
      have hA:∀W' o,wr.grownBy W' (some rb)→wr.grownBy (W'.alloc o) (some rb):=fun W' o hg=>gbA hg o
      clear hsa ho hgs hQ hr3 hl hr4 hql;go_upto_region 7 with fail
      go_region_law
       (first
         | (refine step_append_keep rfl _ _ 59 rfl W.heap.size 75 im (.slice none 0 0) 1 24 Tryd.underlying59 HI.out.1 HI.out.2.1 HI.out.2.2.1 HI.out.2.2.2 rfl (by decide) (.slice qo Q.length qc) Q.length ys rfl (HOQ.out.alloc _) ⟨W5.heap.size,0,none⟩ 1 1 [.slice lo f lc] rfl rfl (arr_one _ _ _) (by simp [Value.oneCell']) (by unfold maxLen;omega) (by omega) HLE.out ?_;intro qo' qc' W6 hr6 hg6 hn6;have n6:W6.cell? ⟨cb,1,none⟩=some (.slice qo Q.length qc):=(World.cell?_of_block (a:=⟨cb,1,none⟩) (hg6.block _ HNE.out.1 HNE.out.2)).trans (y1 _ (hA _ _ hgB));have f6:W6.frozen? ⟨cb,1,none⟩=false:=(World.frozen?_of_block (a:=⟨cb,1,none⟩) (hg6.block _ HNE.out.1 HNE.out.2)).trans (y2 _ (hA _ _ hgB)))
         | (go_simp;go_at_call 34;refine HLI.out.mono ?_;rintro e W5 ⟨lo,lc,rfl,hol,hx5,hg5⟩;have hgB:wr.grownBy W5 (some rb):=gb_trans hD hg5;have HK5:=Lib.hid ((HL.out.below (Below.refl _ _).drew).read hx5 hg5);have HOL:Hid (W5.ownsRow W.heap.size 2 1 (.slice lo f lc) f (intsV l)):=Lib.hid (Joins.ownsRow_le hol HL.out.g.size);obtain ⟨ys,hoq,hqm⟩:=HK5.out.qr;have HOQ:=Lib.hid hoq;have HQM:=Lib.hid hqm;have HLE:Hid (W.heap.size≤ (W5.alloc (.cells #[.slice lo f lc] 75)).heap.size):=Lib.hid (by have:=HK5.out.g.size;simp;omega);have HNE:Hid (cb < (W5.alloc (.cells #[.slice lo f lc] 75)).heap.size∧some cb≠ (Value.slice qo Q.length qc).ownBlock):=Lib.hid ⟨by have:=lt_of_block HK5.out.c;simp;omega,fun e=>owns_neObj HOQ.out HK5.out.c (by simp) e.symm⟩;clear hol hx5 hg5 hoq hqm))
      all_goals (
       have HZ:Hid (∃qo qc,CL W rb mb lb cb ob h m (sk:Int) (quF f (i+1) r2).1 (quF f (i+1) r2).2 qo qc (W6.setCell ⟨cb,1,none⟩ (.slice qo' (Q.length+1) qc'))):=Lib.hid (by
        rw [HST1.out];have h9:=CL.step (l:=l) (lo:=lo) (lc:=lc) HK5.out HOQ.out HQM.out (by rw [HFL.out];exact HOL.out) hg6 (by rw [HFL.out];exact hr6);exact ⟨_,_,h9⟩)
       clear n6 f6 hr6 hg6 hn6 hgB HK5 HOL HOQ HQM HLE HNE y0 y1 y2 hR hD hAD hA m2 c0 e1
       try simp only [Exit.inBlock,Exit.then]
       go_wp2_with fail;go_roundw;case rel=>exact ⟨i+1,by go_num,by omega,HZ⟩
       case measure=>simp [intOf];omega)
    · have hlti:¬ (i:Int) < k:=by omega
      have hik:i=k:=by omega
      subst hik;have HZQ:=HL;obtain ⟨Q,hQ⟩:∃Q,(quF f i r2).1=Q:=⟨_,rfl⟩;obtain ⟨r3,hr3⟩:∃r3,(quF f i r2).2=r3:=⟨_,rfl⟩;rw [hQ,hr3] at HL;rw [hQ,hr3] at HCF2;clear hQ hr3 HZQ;have y0:wr.cell? ⟨cb,0,none⟩=some (.int .i64 (sk:Int)):=(cell_of_row _ _ 0 _ _ _ HL.out.c).trans rfl;have y1:wr.cell? ⟨cb,1,none⟩=some (.slice qo Q.length qc):=(cell_of_row _ _ 1 _ _ _ HL.out.c).trans rfl;have z0:wr.cell? ⟨ob,0,none⟩=some (.int .i64 0):=(cell_of_row _ _ 0 _ _ _ HL.out.o).trans rfl;have z1:wr.cell? ⟨ob,1,none⟩=some (.slice none 0 0):=(cell_of_row _ _ 1 _ _ _ HL.out.o).trans rfl;have g0:wr.frozen? ⟨ob,0,none⟩=false:=frozen_of_row _ _ _ _ _ HL.out.o;have g1:wr.frozen? ⟨ob,1,none⟩=false:=frozen_of_row _ _ _ _ _ HL.out.o;have HZ:Hid (ChP rb mb lb (chF m r) W (.returned (.agg #[.int .i64 (sk:Int),.slice qo Q.length qc])) ((wr.setCell ⟨ob,0,none⟩ (.int .i64 (sk:Int))).setCell ⟨ob,1,none⟩ (.slice qo Q.length qc))):=Lib.hid (by
       rw [HCF2.out];have e1:=gb_set wr ob 0 (.int .i64 (sk:Int));have e2:=gb_set (wr.setCell ⟨ob,0,none⟩ (.int .i64 (sk:Int))) ob 1 (.slice qo Q.length qc);have e3:=gb_trans e1 e2;have hol:=HL.out.ol;have hrl:=HL.out.rl;have q1:=HL.out.qr.set HL.out.o (by simp) (by simp) 0 (.int .i64 (sk:Int));have q2:=q1.set (heap_setCell_same _ _ _ _ _ _ HL.out.o) (by simp) (by simp) 1 (.slice qo Q.length qc);exact ⟨qo,qc,rfl,q2,HL.out.x.other e3 (by omega),⟨e3.os.trans HL.out.g.os,e3.tape.trans HL.out.g.tape,e3.output.trans HL.out.g.output,Nat.le_trans HL.out.g.size e3.size,fun p hp hne=>(e3.block p (Nat.lt_of_lt_of_le hp HL.out.g.size) (by simp;omega)).trans (HL.out.g.block p hp hne)⟩⟩)
      go_wp2_with fail;refine bodyPost_ret (v:= .agg #[.int .i64 (sk:Int),.slice qo Q.length qc]) (by simp [results,Tryd.results36,go_sem,z0,z1,y0,y1,g0,g1]) rfl ?_;exact HZ.out
end Go.Proofs.YtnoibjahliafpaaDoor
