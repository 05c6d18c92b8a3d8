/- The program's reader of a state: the small parts. -/
import Derived.Test.YtnoibjahliafpaaGreatDoorM03
import Derived.Test.YtnoibjahliafpaaGreatDoorM25
import Derived.Test.YtnoibjahliafpaaGreatDoorM35
import Derived.Deep.RegionLaw
set_option linter.unusedVariables false
set_option linter.unusedSimpArgs false
namespace Go.Proofs.YtnoibjahliafpaaGreatDoor
open Go.ChangeShapes Go.WideShapes Go.ChangeAt Go.RowKit
theorem arr_one (W:World) (v:Value) (T:TypeId):∀j u,[v][j]? =some u→ (W.alloc (.cells #[v] T)).cell? ((⟨W.heap.size,0,none⟩:Addr).add j)=some u:=by
 intro j u hj;rw [held.add_off,cell_of_row _ _ _ _ _ _ (heap_alloc_new W _)];simpa using hj
theorem gb_trans {W W1 W2:World} {row:Option Nat} (h1:W.grownBy W1 row) (h2:W1.grownBy W2 row):W.grownBy W2 row:=
 ⟨h2.os.trans h1.os,h2.tape.trans h1.tape,h2.output.trans h1.output,Nat.le_trans h1.size h2.size,fun k hk hne=>(h2.block k (Nat.lt_of_lt_of_le hk h1.size) hne).trans (h1.block k hk hne)⟩
theorem gb_below {W W1:World} {row:Option Nat} (h:Below W.heap.size W W1):W.grownBy W1 row:=⟨h.os,h.tape,h.output,h.size,fun k hk _=>h.block k hk⟩
theorem gb_refl (W:World) (row:Option Nat):W.grownBy W row:=gb_below (Below.refl _ _)
theorem gb_set (W:World) (b i:Nat) (v:Value):W.grownBy (W.setCell ⟨b,i,none⟩ v) (some b):=
 have hb:Below b W (W.setCell ⟨b,i,none⟩ v):=(Below.refl b W).setCell (p:=⟨b,i,none⟩) (Nat.le_refl _) v
 ⟨hb.os,hb.tape,hb.output,hb.size,fun k _ hne=>heap_setCell_other _ _ _ _ (fun e=>hne (by rw [e]))⟩
theorem gb_low {B b:Nat} {W W1:World} (h:W.grownBy W1 (some b)) (hB:B≤b) (hb:b < W.heap.size):Below B W W1:=
 ⟨h.os,h.tape,h.output,h.size,fun k hk=>h.block k (by omega) (by simp;omega)⟩
theorem gb_heap {b k:Nat} {W W1:World} {o:Obj} (h:W.grownBy W1 (some b)) (hk:W.heap[k]? =some o) (hne:k≠b):W1.heap[k]? =some o:=
 (h.block k (Array.getElem?_eq_some_iff.1 hk).1 (by simpa using hne)).trans hk
structure RX (rb mb lb:Nat) (r:RdS) (W:World):Prop where
 blk:∃lo lc,W.heap[rb]? =some (.cells #[.pointer (some ⟨mb,0,none⟩),.slice lo r.left.length lc,.bool r.wrong] 94 (0,0))∧Row lb lo 1 (intAt W) r.left∧r.left.length≤lc
 le:lb≤rb
theorem RX.lt {rb mb lb:Nat} {r:RdS} {W:World} (h:RX rb mb lb r W):rb < W.heap.size:=by
 obtain ⟨lo,lc,hb,-,-⟩:=h.blk;exact lt_of_block hb
theorem RX.below {rb mb lb:Nat} {r:RdS} {W W1:World} (h:RX rb mb lb r W) (hb:Below W.heap.size W W1):RX rb mb lb r W1:=by
 obtain ⟨lo,lc,h1,h2,h3⟩:=h.blk;have hl:=h.lt;exact ⟨⟨lo,lc,(hb.block _ hl).trans h1,h2.mono fun _ _ _ hg=>intAt.below (hb.mono (by have:=h.le;omega)) hg,h3⟩,h.le⟩
theorem RX.other {rb mb lb:Nat} {r:RdS} {W W1:World} {b:Nat} (h:RX rb mb lb r W) (hg:W.grownBy W1 (some b)) (hb:rb < b):RX rb mb lb r W1:=by
 obtain ⟨lo,lc,h1,h2,h3⟩:=h.blk;have hl:=h.lt;refine ⟨⟨lo,lc,gb_heap hg h1 (by omega),h2.mono fun g a x hgl hx=> ?_,h3⟩,h.le⟩;have:=h.le;exact (World.cell?_of_block (hg.block g (by omega) (by simp;omega))).trans hx
def RdP (rb mb lb:Nat) (v:Value) (r:RdS) (W:World) (e:Ending) (W':World):Prop:=e= .returned v∧RX rb mb lb r W'∧W.grownBy W' (some rb)
set_option maxRecDepth 100000 in
set_option maxHeartbeats 1000000 in
theorem nextC {rb mb lb:Nat} {r:RdS} {W:World} (h:RX rb mb lb r W):
 Calls Tryz.prog 72 #[.pointer (some ⟨rb,0,none⟩)] W (RdP rb mb lb (.int .i64 (nxF r).1) (nxF r).2 W):=by
 obtain ⟨lo,lc,hb,hr,hcap⟩:=h.blk;have hle:=h.le;have hlt:=h.lt;obtain ⟨L,wr⟩:=r;simp only at hb hr hcap;have HBX:=Lib.hid hb;have x1:W.cell? ⟨rb,1,none⟩=some (.slice lo L.length lc):=(cell_of_row _ _ 1 _ _ _ hb).trans rfl;have x2:W.cell? ⟨rb,2,none⟩=some (.bool wr):=(cell_of_row _ _ 2 _ _ _ hb).trans rfl;have f1:W.frozen? ⟨rb,1,none⟩=false:=frozen_of_row _ _ _ _ _ hb;have f2:W.frozen? ⟨rb,2,none⟩=false:=frozen_of_row _ _ _ _ _ hb;have HLE:=Lib.hid hle;clear h hle;cases L with
 | nil=>
   have HZ:Hid (RdP rb mb lb (.int .i64 (nxF ⟨[],wr⟩).1) (nxF ⟨[],wr⟩).2 W (.returned (.int .i64 0)) (W.setCell ⟨rb,2,none⟩ (.bool true))):=Lib.hid ⟨rfl,⟨⟨lo,lc,(heap_setCell_same _ _ _ _ _ _ hb).trans rfl,Row.nil _ _ _ _,hcap⟩,HLE.out⟩,gb_set _ _ _ _⟩;have hl0: (([]:List Int).length:Int)=0:=rfl;clear hb hr hcap hlt;go_enter Tryz.func72,Tryz.ntmps72;go_wp2_with fail;go_ret;exact HZ.out
 | cons v t=>
   obtain ⟨g,off,rfl,hg,e1⟩:=hr.cell (i:=0) (by simp);have hrt:=hr.2;unfold intAt at e1;have e1:W.cell? ⟨g,off,none⟩=some (.int .i64 v):=e1;obtain ⟨lo2,hlo2⟩:∃l,l= (if lc=1 then some (⟨g,off,none⟩:Addr) else some ⟨g,off+1,none⟩):=⟨_,rfl⟩;have hsl:∀W:World,(Instr.slice 23 (.slice (some ⟨g,off,none⟩) (t.length+1) lc) (some (.int .i64 1)) none none).run Tryz.prog W= .ok (.slice lo2 t.length (lc - 1)) W:=fun W=>by
    rw [run_slice_l W 23 _ _ _ Tryz.underlying23 .i64 1 (by omega) (by simp;omega)];rw [show (sizeOf (Tryz.prog.elem 23)).run Tryz.prog W= .ok 1 W from Tryz.sizeOf2 W];simp only [Result.andThen_ok,sliced,hlo2];congr 1
   have hrow:Row lb lo2 1 (intAt W) t:=by
    refine ⟨by have:=hr.1;simp at this;omega, ?_⟩;rcases hrt with h0 | ⟨g',off',e,hg',hc⟩
    · simp at h0
    · by_cases ht:t.length=0
      · exact .inl ht
      · right;injection e with e
        injection e with e2 e3
        subst e2 e3;refine ⟨g,off+1,by rw [hlo2,if_neg (by simp at hcap;omega)],hg,fun i hi=> ?_⟩;have:=hc (i+1) (by simp;omega);rw [show off+1+i*1=off+ (i+1)*1 by omega];exact this
   have HZ:Hid (RdP rb mb lb (.int .i64 (nxF ⟨v :: t,wr⟩).1) (nxF ⟨v :: t,wr⟩).2 W (.returned (.int .i64 v)) (W.setCell ⟨rb,1,none⟩ (.slice lo2 t.length (lc - 1)))):=Lib.hid (by
    refine ⟨rfl,⟨⟨lo2,lc - 1,(heap_setCell_same _ _ _ _ _ _ hb).trans rfl,hrow.mono fun g a x hgl hx=> ?_,by simp at hcap;simp [nxF];omega⟩,HLE.out⟩,gb_set _ _ _ _⟩;have:=HLE.out;exact (World.cell?_of_block (heap_setCell_other _ _ _ _ (by show g≠rb;omega))).trans hx)
   have hl0: (((v :: t).length:Nat):Int)≠0:=by simp <;> omega
   have hl1: (v :: t).length=t.length+1:=rfl;have hl2: ((t.length:Int)+1 == 0)=false:=by rw [beq_eq_false_iff_ne];omega
   clear hb hr hcap hlt hrt hrow hg hlo2;go_enter Tryz.func72,Tryz.ntmps72;go_wp2_with fail;go_ret;exact HZ.out
theorem RX.bad {rb mb lb:Nat} {r:RdS} {W:World} (h:RX rb mb lb r W):RX rb mb lb ⟨r.left,true⟩ (W.setCell ⟨rb,2,none⟩ (.bool true)):=by
 obtain ⟨lo,lc,hb,hr,hcap⟩:=h.blk;refine ⟨⟨lo,lc,(heap_setCell_same _ _ _ _ _ _ hb).trans rfl,hr.mono fun g a x hgl hx=> ?_,hcap⟩,h.le⟩;have:=h.le;exact (World.cell?_of_block (heap_setCell_other _ _ _ _ (by show g≠rb;omega))).trans hx
theorem RX.c2 {rb mb lb:Nat} {r:RdS} {W:World} (h:RX rb mb lb r W):W.cell? ⟨rb,2,none⟩=some (.bool r.wrong)∧W.frozen? ⟨rb,2,none⟩=false:=by
 obtain ⟨lo,lc,hb,hr,hcap⟩:=h.blk;exact ⟨(cell_of_row _ _ 2 _ _ _ hb).trans rfl,frozen_of_row _ _ _ _ _ hb⟩
theorem RX.c0 {rb mb lb:Nat} {r:RdS} {W:World} (h:RX rb mb lb r W):W.cell? ⟨rb,0,none⟩=some (.pointer (some ⟨mb,0,none⟩)):=by
 obtain ⟨lo,lc,hb,hr,hcap⟩:=h.blk;exact (cell_of_row _ _ 0 _ _ _ hb).trans rfl
set_option maxRecDepth 100000 in
set_option maxHeartbeats 1000000 in
theorem belowC {rb mb lb:Nat} {r:RdS} (most:Int) {W:World} (h:RX rb mb lb r W):
 Calls Tryz.prog 69 #[.pointer (some ⟨rb,0,none⟩),.int .i64 most] W (RdP rb mb lb (.int .i64 (beF most r).1) (beF most r).2 W):=by
 have HN:=Lib.hid (nextC h);obtain ⟨v,hv⟩:∃v,(nxF r).1=v:=⟨_,rfl⟩;obtain ⟨r1,hr1⟩:∃r1,(nxF r).2=r1:=⟨_,rfl⟩;rw [hv,hr1] at HN;have HBE:Hid (beF most r=if v < 0∨most≤v then (0,⟨r1.left,true⟩) else (v,r1)):=Lib.hid (by
  unfold beF;rw [hv,hr1];split
  · rfl
  · rw [←hv,←hr1])
 clear hv hr1 h;go_enter Tryz.func69,Tryz.ntmps69;go_wp2_with fail;refine HN.out.mono ?_;rintro e W1 ⟨rfl,hx1,hg1⟩;have HX1:=Lib.hid hx1;have HG1:=Lib.hid hg1;clear hx1 hg1 HN;have HZ:Hid (RdP rb mb lb (.int .i64 0) ⟨r1.left,true⟩ W (.returned (.int .i64 0)) (W1.setCell ⟨rb,2,none⟩ (.bool true))):=Lib.hid ⟨rfl,HX1.out.bad,gb_trans HG1.out (gb_set _ _ _ _)⟩;obtain ⟨x2,f2⟩:=HX1.out.c2;by_cases h0:v < 0
 · have HE:Hid (beF most r= (0,⟨r1.left,true⟩)):=Lib.hid (by rw [HBE.out,if_pos (.inl h0)]);go_wp2_with fail;go_ret;rw [HE.out];exact HZ.out
 · by_cases h1:most≤v
   · have HE:Hid (beF most r= (0,⟨r1.left,true⟩)):=Lib.hid (by rw [HBE.out,if_pos (.inr h1)]);go_wp2_with fail;go_ret;rw [HE.out];exact HZ.out
   · have HE:Hid (beF most r= (v,r1)):=Lib.hid (by rw [HBE.out,if_neg (by omega)]);have HZ2:Hid (RdP rb mb lb (.int .i64 v) r1 W (.returned (.int .i64 v)) W1):=Lib.hid ⟨rfl,HX1.out,HG1.out⟩;go_wp2_with fail;go_ret;rw [HE.out];exact HZ2.out
def LiP (rb mb lb n:Nat) (l:List Int) (r:RdS) (W:World) (e:Ending) (W':World):Prop:=
 ∃o c,e= .returned (.slice o n c)∧W'.ownsRow W.heap.size 2 1 (.slice o n c) n (intsV l)∧RX rb mb lb r W'∧W.grownBy W' (some rb)
set_option maxRecDepth 100000 in
set_option maxHeartbeats 2000000 in
theorem listC {rb mb lb:Nat} {r:RdS} (n:Nat) {W:World} (hn:n≤100000) (h:RX rb mb lb r W):
 Calls Tryz.prog 68 #[.pointer (some ⟨rb,0,none⟩),.int .i64 n] W (LiP rb mb lb n (liF n r).1 (liF n r).2 W):=by
 have HH0:Hid (∃o c,Value.slice none 0 0= .slice o 0 c∧W.ownsRow W.heap.size 2 1 (.slice o 0 c) 0 (intsV (liF 0 r).1)∧RX rb mb lb (liF 0 r).2 W∧W.grownBy W (some rb)):=Lib.hid ⟨none,0,rfl,World.ownsRow_nil _ _ _ _,h,gb_refl _ _⟩;have HRB:=Lib.hid h.lt;obtain ⟨ii,hi1,hi2,hi3,hi4⟩:=info_parts info_ints;have HI:=Lib.hid (And.intro hi1 (And.intro hi2 (And.intro hi3 hi4)));clear h hi1 hi2 hi3 hi4;go_enter Tryz.func68,Tryz.ntmps68;go_wp2_with fail
 go_loopw [5,7] (fun lv iv W1=>∃i:Nat,iv= .int .i64 i∧i≤n∧Hid (∃o c,lv= .slice o i c∧W1.ownsRow W.heap.size 2 1 (.slice o i c) i (intsV (liF i r).1)∧RX rb mb lb (liF i r).2 W1∧W.grownBy W1 (some rb))) (fun _ iv _=>n - (intOf iv).toNat)
 case atStart=>exact ⟨0,rfl,by omega,HH0⟩
 case round=>
  clear HH0;obtain ⟨i,rfl,hi,HH⟩:=hrel;obtain ⟨o,c,rfl,ho,hx,hg⟩:=HH.out;have hi0: (0:Int)≤i:=by omega
  have HO:=Lib.hid ho;have HX:=Lib.hid hx;have HG:=Lib.hid hg;clear ho hx hg;by_cases hlt:i < n
  · have hlti: (i:Int) < n:=by omega
    have HN:=Lib.hid (nextC HX.out);obtain ⟨v,hv⟩:∃v,(nxF (liF i r).2).1=v:=⟨_,rfl⟩;obtain ⟨r1,hr1⟩:∃r1,(nxF (liF i r).2).2=r1:=⟨_,rfl⟩;rw [hv,hr1] at HN;have HS:Hid (liF (i+1) r= ((liF i r).1 ++ [v],r1)):=Lib.hid (by rw [liF,hv,hr1]);clear hv hr1;go_wp2_with fail;refine HN.out.mono ?_;rintro e W2 ⟨rfl,hx2,hg2⟩;have HX2:=Lib.hid hx2;have HG2:=Lib.hid (gb_trans HG.out hg2);have HO2:Hid ((W2.alloc (.cells #[.int .i64 v] 2)).ownsRow W.heap.size 2 1 (.slice o i c) i (intsV (liF i r).1)):=Lib.hid ((HO.out.kept hg2 (.inr (fun e=>by have:=(HO.out.lt _ e).1;have:=HRB.out;omega))).alloc _);have HLE:Hid (W.heap.size≤ (W2.alloc (.cells #[.int .i64 v] 2)).heap.size):=Lib.hid (by have:=HG2.out.size;simp;omega);clear hx2 hg2 HN;go_wp2_with (at_builtin;refine wpList_append_keep rfl _ _ 23 rfl W.heap.size 2 ii (.int .i64 0) 1 8 Tryz.underlying23 HI.out.1 HI.out.2.1 HI.out.2.2.1 HI.out.2.2.2 rfl (by decide) (.slice o i c) i (intsV (liF i r).1) rfl HO2.out ⟨W2.heap.size,0,none⟩ 1 1 [.int .i64 v] rfl rfl (arr_one _ _ _) (by simp [Value.oneCell']) (by unfold maxLen;omega) (by omega) HLE.out ?_);intro o3 c3 W3 ho3 hg3 hn3;have HZ:Hid (∃o c,Value.slice o3 (i+1) c3= .slice o (i+1) c∧W3.ownsRow W.heap.size 2 1 (.slice o (i+1) c) (i+1) (intsV (liF (i+1) r).1)∧RX rb mb lb (liF (i+1) r).2 W3∧W.grownBy W3 (some rb)):=Lib.hid (by
     have hrb:=HRB.out;have hown:∀k,k < W.heap.size→some k≠ (Value.slice o i c).ownBlock:=fun k hk e=>by have:=(HO.out.lt _ e.symm).1;omega
     have hlow:Below W.heap.size W2 W3:=(ball' (Below.refl _ _) _ HG2.out.size).grown hg3 (by have:=HG2.out.size;simp;omega) (fun q hq=>(HO.out.lt q hq).1);refine ⟨o3,c3,rfl, ?_, ?_,⟨hlow.os.trans HG2.out.os,hlow.tape.trans HG2.out.tape,hlow.output.trans HG2.out.output,Nat.le_trans HG2.out.size hlow.size,fun k hk hne=>(hlow.block k hk).trans (HG2.out.block k hk hne)⟩⟩
     · rw [HS.out];simp only [intsV,List.map_append,List.map_cons,List.map_nil] at ho3 ⊢;exact ho3
     · rw [HS.out];obtain ⟨lo,lc,h1,h2,h3⟩:=HX2.out.blk;have hle:=HX2.out.le;exact ⟨⟨lo,lc,(hlow.block _ hrb).trans h1,h2.mono fun _ _ _ hgl=>intAt.below (hlow.mono (by omega)) hgl,h3⟩,hle⟩)
    clear ho3 hg3 hn3 HO HX HG HX2 HG2 HO2 HLE HH;go_wp2_with fail;go_roundw;case rel=>exact ⟨i+1,by go_num,by omega,HZ⟩
    case measure=>simp [intOf];omega
  · have hlti:¬ (i:Int) < n:=by omega
    have hin:i=n:=by omega
    have HZ:Hid (LiP rb mb lb n (liF n r).1 (liF n r).2 W (.returned (.slice o i c)) wr):=Lib.hid (by subst hin;exact ⟨o,c,rfl,HO.out,HX.out,HG.out⟩);clear hin;go_wp2_with fail;go_ret;exact HZ.out
end Go.Proofs.YtnoibjahliafpaaGreatDoor
namespace Go.Proofs.YtnoibjahliafpaaGreatDoor
open Go.ChangeShapes Go.WideShapes Go.ChangeAt Go.RowKit
theorem owns_type {w:World} {B:Nat} {e:TypeId} {size n:Nat} {v:Value} {xs:List Value} (h:w.ownsRow B e size v n xs):∀g,v.ownBlock=some g→∃c fz,w.heap[g]? =some (.cells c e fz):=by
 intro g hg;rcases h.2 with ⟨rfl,_⟩ | ⟨g',cap,cur,rfl,_,hgg,_⟩
 · simp [Value.ownBlock] at hg
 · simp [Value.ownBlock] at hg;subst hg;exact ⟨cur,(0,0),hgg⟩
theorem owns_ne {w:World} {B B':Nat} {e e':TypeId} {size size' n n':Nat} {v v':Value} {xs xs':List Value} (h:w.ownsRow B e size v n xs) (h':w.ownsRow B' e' size' v' n' xs') (he:e≠e'):v.ownBlock=none∨v.ownBlock≠v'.ownBlock:=by
 cases hv:v.ownBlock with
 | none=>exact .inl rfl
 | some g=>
   right;intro e2;obtain ⟨c,fz,h3⟩:=owns_type h' g e2.symm;exact owns_neObj h h3 he hv
def QR (B:Nat) (W:World) (o:Option Addr) (c:Nat) (q:List (List Int)):Prop:=
 ∃ys,W.ownsRow B 76 1 (.slice o q.length c) q.length ys∧∀j (hj:j < q.length),∃o2 c2,ys[j]? =some (.slice o2 q[j].length c2)∧W.ownsRow B 2 1 (.slice o2 q[j].length c2) q[j].length (intsV q[j])
theorem QR.nil (B:Nat) (W:World) (o:Option Addr) (c:Nat) (h:Value.slice o 0 c= .slice none 0 0):QR B W o c []:=by
 injection h with h1 h2 h3
 subst h1 h3;exact ⟨[],World.ownsRow_nil _ _ _ _,fun j hj=>absurd hj (by simp)⟩
theorem QR.mono {B B':Nat} {W:World} {o:Option Addr} {c:Nat} {q:List (List Int)} (h:QR B W o c q) (hB:B'≤B):QR B' W o c q:=by
 obtain ⟨ys,h1,h2⟩:=h;exact ⟨ys,Joins.ownsRow_le h1 hB,fun j hj=>by
  obtain ⟨o2,c2,h3,h4⟩:=h2 j hj;exact ⟨o2,c2,h3,Joins.ownsRow_le h4 hB⟩⟩
theorem QR.gb {B b:Nat} {W W1:World} {o:Option Addr} {c:Nat} {q:List (List Int)} (h:QR B W o c q) (hg:W.grownBy W1 (some b)) (hb:b < B):QR B W1 o c q:=by
 obtain ⟨ys,h1,h2⟩:=h;exact ⟨ys,h1.kept hg (.inr fun e=>by have:=(h1.lt _ e).1;omega),fun j hj=>by
  obtain ⟨o2,c2,h3,h4⟩:=h2 j hj;exact ⟨o2,c2,h3,h4.kept hg (.inr fun e=>by have:=(h4.lt _ e).1;omega)⟩⟩
theorem QR.set {B b:Nat} {W:World} {o:Option Addr} {c:Nat} {q:List (List Int)} {cs:Array Value} {T:TypeId} {fr:Nat × Nat} (h:QR B W o c q) (hb:W.heap[b]? =some (.cells cs T fr)) (h1:76≠T) (h2:2≠T) (i:Nat) (v:Value):QR B (W.setCell ⟨b,i,none⟩ v) o c q:=by
 obtain ⟨ys,h3,h4⟩:=h;exact ⟨ys,owns_set h3 _ _ (owns_neObj h3 hb h1),fun j hj=>by
  obtain ⟨o2,c2,h5,h6⟩:=h4 j hj;exact ⟨o2,c2,h5,owns_set h6 _ _ (owns_neObj h6 hb h2)⟩⟩
theorem QR.grow {B B':Nat} {W W1:World} {o:Option Addr} {c:Nat} {q:List (List Int)} {e:TypeId} {size n:Nat} {v:Value} {xs:List Value} (h:QR B W o c q) (hr:W.ownsRow B' e size v n xs) (hg:W.grownBy W1 v.ownBlock) (h1:76≠e) (h2:2≠e):QR B W1 o c q:=by
 obtain ⟨ys,h3,h4⟩:=h;exact ⟨ys,h3.kept hg (owns_ne h3 hr h1),fun j hj=>by
  obtain ⟨o2,c2,h5,h6⟩:=h4 j hj;exact ⟨o2,c2,h5,h6.kept hg (owns_ne h6 hr h2)⟩⟩
theorem QR.below {B:Nat} {W W1:World} {o:Option Addr} {c:Nat} {q:List (List Int)} (h:QR B W o c q) (hb:Below W.heap.size W W1):QR B W1 o c q:=by
 obtain ⟨ys,h3,h4⟩:=h;exact ⟨ys,owns_below h3 hb,fun j hj=>by
  obtain ⟨o2,c2,h5,h6⟩:=h4 j hj;exact ⟨o2,c2,h5,owns_below h6 hb⟩⟩
structure RM (rb mb lb:Nat) (h:MH) (m:ModelD) (W:World):Prop where
 box:W.heap[mb]? =some (.cells (mCells h m) 29 (0,0))
 md:MD lb W h m
 ne:mb≠rb
 le:lb≤rb
theorem RM.below {rb mb lb:Nat} {h:MH} {m:ModelD} {W W1:World} (k:RM rb mb lb h m W) (hl:rb < W.heap.size) (hb:Below W.heap.size W W1):RM rb mb lb h m W1:=
 ⟨(hb.block _ (lt_of_block k.box)).trans k.box,k.md.below (hb.mono (by have:=k.le;omega)),k.ne,k.le⟩
theorem RM.gb {rb mb lb:Nat} {h:MH} {m:ModelD} {W W1:World} (k:RM rb mb lb h m W) (hl:rb < W.heap.size) (hg:W.grownBy W1 (some rb)):RM rb mb lb h m W1:=
 ⟨gb_heap hg k.box k.ne,k.md.below (gb_low hg k.le hl),k.ne,k.le⟩
theorem RM.other {rb mb lb b:Nat} {h:MH} {m:ModelD} {W W1:World} (k:RM rb mb lb h m W) (hb:rb < b) (hmb:mb≠b) (hl:b < W.heap.size) (hg:W.grownBy W1 (some b)):RM rb mb lb h m W1:=
 ⟨gb_heap hg k.box hmb,k.md.below (gb_low hg (by have:=k.le;omega) hl),k.ne,k.le⟩
theorem RM.cell {rb mb lb:Nat} {h:MH} {m:ModelD} {W:World} (k:RM rb mb lb h m W) {i:Nat} {v:Value} (hv: (mCells h m)[i]? =some v):W.cell? ⟨mb,i,none⟩=some v:=(cell_of_row _ _ _ _ _ _ k.box).trans hv
theorem nx_wrong (r:RdS) (h: (nxF r).2.wrong=false):r.wrong=false:=by
 obtain ⟨l,w⟩:=r;cases l with
 | nil=>simp [nxF] at h
 | cons v t=>exact h
theorem be_ok {most:Int} {r:RdS} (h: (beF most r).2.wrong=false):r.wrong=false∧0≤ (beF most r).1∧ (beF most r).1 < most:=by
 unfold beF at h ⊢;split
 · rename_i h1
   rw [if_pos h1] at h;cases h
 · rename_i h1
   rw [if_neg h1] at h;exact ⟨nx_wrong r h,by omega,by omega⟩
theorem be_range {most:Int} (hm:0≤most) (r:RdS):0≤ (beF most r).1∧ (beF most r).1≤most:=by
 unfold beF;split
 · exact ⟨by simp,by simpa using hm⟩
 · omega
theorem qu_len (f:Nat):∀ (n:Nat) (r:RdS),(quF f n r).1.length=n
 | 0,r=>rfl
 | n+1,r=>by simp [quF,qu_len f n r]
theorem li_len:∀ (n:Nat) (r:RdS),(liF n r).1.length=n
 | 0,r=>rfl
 | n+1,r=>by simp [liF,li_len n r]
def ChP (rb mb lb:Nat) (x:ChanD × RdS) (W:World) (e:Ending) (W':World):Prop:=
 ∃qo qc,e= .returned (.agg #[.int .i64 x.1.shape,.slice qo x.1.queue.length qc])∧QR W.heap.size W' qo qc x.1.queue∧RX rb mb lb x.2 W'∧W.grownBy W' (some rb)
structure CL (W0:World) (rb mb lb cb ob:Nat) (h:MH) (m:ModelD) (sh:Int) (q:List (List Int)) (r:RdS) (qo:Option Addr) (qc:Nat) (W:World):Prop where
 qr:QR (W0.heap.size) W qo qc q
 c:W.heap[cb]? =some (.cells #[.int .i64 sh,.slice qo q.length qc] 66 (0,0))
 o:W.heap[ob]? =some (.cells #[.int .i64 0,.slice none 0 0] 66 (0,0))
 x:RX rb mb lb r W
 m:RM rb mb lb h m W
 g:W0.grownBy W (some rb)
 rl:rb < W0.heap.size
 cl:W0.heap.size≤cb
 ol:W0.heap.size≤ob
 ne:ob≠cb
theorem CL.below {W0 W W1:World} {rb mb lb cb ob:Nat} {h:MH} {m:ModelD} {sh:Int} {q:List (List Int)} {r:RdS} {qo:Option Addr} {qc:Nat} (k:CL W0 rb mb lb cb ob h m sh q r qo qc W) (hb:Below W.heap.size W W1):CL W0 rb mb lb cb ob h m sh q r qo qc W1:=
 ⟨k.qr.below hb,(hb.block _ (lt_of_block k.c)).trans k.c,(hb.block _ (lt_of_block k.o)).trans k.o,k.x.below hb,k.m.below k.x.lt hb,gb_trans k.g (gb_below hb),k.rl,k.cl,k.ol,k.ne⟩
theorem CL.read {W0 W W1:World} {rb mb lb cb ob:Nat} {h:MH} {m:ModelD} {sh:Int} {q:List (List Int)} {r r1:RdS} {qo:Option Addr} {qc:Nat} (k:CL W0 rb mb lb cb ob h m sh q r qo qc W) (hx:RX rb mb lb r1 W1) (hg:W.grownBy W1 (some rb)):CL W0 rb mb lb cb ob h m sh q r1 qo qc W1:=
 have h1:=k.rl;have h2:=k.cl;have h3:=k.ol
 ⟨k.qr.gb hg h1,gb_heap hg k.c (by omega),gb_heap hg k.o (by omega),hx,k.m.gb k.x.lt hg,gb_trans k.g hg,k.rl,k.cl,k.ol,k.ne⟩
theorem CL.step {W0 W W3:World} {rb mb lb cb ob:Nat} {h:MH} {m:ModelD} {sh:Int} {q:List (List Int)} {r:RdS} {qo:Option Addr} {qc:Nat} {l:List Int} {lo:Option Addr} {lc:Nat} {ys:List Value} {ob':Obj} (k:CL W0 rb mb lb cb ob h m sh q r qo qc W)
 (hq:W.ownsRow W0.heap.size 76 1 (.slice qo q.length qc) q.length ys) (hqm:∀j (hj:j < q.length),∃o2 c2,ys[j]? =some (.slice o2 q[j].length c2)∧W.ownsRow W0.heap.size 2 1 (.slice o2 q[j].length c2) q[j].length (intsV q[j]))
 (hl:W.ownsRow W0.heap.size 2 1 (.slice lo l.length lc) l.length (intsV l)) {qo':Option Addr} {qc':Nat} (hg: (W.alloc ob').grownBy W3 (Value.slice qo q.length qc).ownBlock)
 (hr:W3.ownsRow W0.heap.size 76 1 (.slice qo' (q.length+1) qc') (q.length+1) (ys ++ [.slice lo l.length lc])):
 CL W0 rb mb lb cb ob h m sh (q ++ [l]) r qo' qc' (W3.setCell ⟨cb,1,none⟩ (.slice qo' (q.length+1) qc')):=by
 have hA:=k.below (ball ob');have hq':=hq.alloc ob';have h1:=k.rl;have h2:=k.cl;have h3:=k.ol;have hrow:=k.x.lt;have hgs:=k.g.size;have hlow:Below W0.heap.size (W.alloc ob') W3:=(Below.refl _ _).grown hg (by simp;omega) (fun p hp=>(hq'.lt p hp).1);have hobj:∀ {p:Nat} {cs:Array Value} {T:TypeId},(W.alloc ob').heap[p]? =some (.cells cs T (0,0))→76≠T→W3.heap[p]? =some (.cells cs T (0,0)):=fun {p cs T} hp hT=>
  (hg.block p (lt_of_block hp) (fun e=>owns_neObj hq' hp hT e.symm)).trans hp
 have hc3:=hobj hA.c (by simp);have ho3:=hobj hA.o (by simp);have hlen:ys.length=q.length:=by have:=hq.1;omega
 have hx3:RX rb mb lb r W3:=by
  obtain ⟨a,b,c1,c2,c3⟩:=hA.x.blk;have:=hA.x.le;exact ⟨⟨a,b,(hlow.block _ h1).trans c1,c2.mono fun _ _ _ hgl=>intAt.below (hlow.mono (by omega)) hgl,c3⟩,hA.x.le⟩
 have hm3:RM rb mb lb h m W3:=⟨hobj hA.m.box (by simp),hA.m.md.below (hlow.mono (by have:=hA.m.le;omega)),hA.m.ne,hA.m.le⟩;have hgs3:W0.grownBy W3 (some rb):=⟨hlow.os.trans hA.g.os,hlow.tape.trans hA.g.tape,hlow.output.trans hA.g.output,Nat.le_trans hA.g.size hlow.size,fun p hp hne=>(hlow.block p hp).trans (hA.g.block p hp hne)⟩;have hset:Below cb W3 (W3.setCell ⟨cb,1,none⟩ (.slice qo' (q.length+1) qc')):=(Below.refl cb W3).setCell (p:=⟨cb,1,none⟩) (Nat.le_refl _) _;have hgset:W3.grownBy (W3.setCell ⟨cb,1,none⟩ (.slice qo' (q.length+1) qc')) (some cb):=gb_set _ _ _ _;have hl3:W3.ownsRow W0.heap.size 2 1 (.slice lo l.length lc) l.length (intsV l):=(hl.alloc ob').kept hg (owns_ne (hl.alloc ob') hq' (by simp));refine ⟨⟨ys ++ [.slice lo l.length lc], ?_,fun j hj=> ?_⟩, ?_,gb_heap hgset ho3 k.ne,hx3.other hgset (by omega),hm3.other (by omega) (fun e=> ?_) (lt_of_block hc3) hgset,⟨hgset.os.trans hgs3.os,hgset.tape.trans hgs3.tape,hgset.output.trans hgs3.output,Nat.le_trans hgs3.size hgset.size,fun p hp hne=>(hset.block p (by omega)).trans (hgs3.block p hp hne)⟩,k.rl,k.cl,k.ol,k.ne⟩
 · rw [List.length_append,List.length_singleton];exact owns_set hr _ _ (owns_neObj hr hc3 (by simp))
 · rw [List.length_append,List.length_singleton] at hj;by_cases e:j < q.length
   · obtain ⟨o2,c2,h5,h6⟩:=hqm j e;have e1: (q ++ [l])[j]=q[j]:=List.getElem_append_left e;rw [e1];have h7:=(h6.alloc ob').kept hg (owns_ne (h6.alloc ob') hq' (by simp));exact ⟨o2,c2,by rw [List.getElem?_append_left (by omega)];exact h5,owns_set h7 _ _ (owns_neObj h7 hc3 (by simp))⟩
   · obtain rfl:j=q.length:=by omega
     have e1: (q ++ [l])[q.length]=l:=by simp
     rw [e1];exact ⟨lo,lc,by rw [List.getElem?_append_right (by omega),hlen];simp,owns_set hl3 _ _ (owns_neObj hl3 hc3 (by simp))⟩
 · rw [List.length_append,List.length_singleton];exact (heap_setCell_same _ _ _ _ _ _ hc3).trans rfl
 · have:=hm3.box;rw [e,hc3] at this;simp at this
end Go.Proofs.YtnoibjahliafpaaGreatDoor
namespace Go.Proofs.YtnoibjahliafpaaGreatDoor
open Go.ChangeShapes Go.WideShapes Go.ChangeAt Go.RowKit
theorem gbD {W W1:World} {row:Option Nat} (h:W.grownBy W1 row):W.grownBy W1.drew row:=gb_trans h (gb_below (Below.refl _ _).drew)
theorem gbA {W W1:World} {row:Option Nat} (h:W.grownBy W1 row) (o:Obj):W.grownBy (W1.alloc o) row:=gb_trans h (gb_below (ball o))
set_option maxRecDepth 100000 in
set_option maxHeartbeats 4000000 in
theorem channelC {rb mb lb:Nat} {h:MH} {m:ModelD} {r:RdS} (W:World) (hx:RX rb mb lb r W) (hm:RM rb mb lb h m W) (hf:∀s ∈ m.shapes,s.fields.length≤8):
 Calls Tryz.prog 70 #[.pointer (some ⟨rb,0,none⟩)] W (ChP rb mb lb (chF m r) W):=by
 have HX:=Lib.hid hx;have HM:=Lib.hid hm;have HF:=Lib.hid hf;have hsl:=hm.md.shapes.1;clear hx hm hf;have HX1:=Lib.hid (HX.out.below (ball (.cells #[.int .i64 0,.slice none 0 0] 66)));have HM1:=Lib.hid (HM.out.below HX.out.lt (ball (.cells #[.int .i64 0,.slice none 0 0] 66)));have HO1:Hid ((W.alloc (.cells #[.int .i64 0,.slice none 0 0] 66)).heap[W.heap.size]? =some (.cells #[.int .i64 0,.slice none 0 0] 66 (0,0))):=Lib.hid (heap_alloc_new _ _);have HG1:Hid (W.grownBy (W.alloc (.cells #[.int .i64 0,.slice none 0 0] 66)) (some rb)):=Lib.hid (gb_below (ball _));go_enter Tryz.func70,Tryz.ntmps70;go_upto_region 1 with fail
 generalize W.alloc (.cells #[.int .i64 0,.slice none 0 0] 66)=W1 at HX1 HM1 HO1 HG1 ⊢;have c0:=HX1.out.c0;have m2:W1.cell? ⟨mb,2,none⟩=some (.slice h.so m.shapes.length h.sc):=HM1.out.cell rfl;have HBL:=Lib.hid (belowC (m.shapes.length:Int) HX1.out);have HR1:=Lib.hid (be_range (most:=(m.shapes.length:Int)) (by omega) r);obtain ⟨sh,hsh⟩:∃v,(beF (m.shapes.length:Int) r).1=v:=⟨_,rfl⟩;obtain ⟨r1,hr1⟩:∃v,(beF (m.shapes.length:Int) r).2=v:=⟨_,rfl⟩;have HE1:Hid (beF (m.shapes.length:Int) r= (sh,r1)):=Lib.hid (by rw [←hsh,←hr1]);rw [hsh,hr1] at HBL;clear hsh hr1;go_wp2_with fail;refine HBL.out.mono ?_;rintro e W2 ⟨rfl,hx2,hg2⟩;have HX2:=Lib.hid hx2;have HG2:=Lib.hid hg2;clear hx2 hg2 HBL c0 m2;have HL0:Hid (CL W rb mb lb W2.heap.size W.heap.size h m sh [] r1 none 0 (W2.alloc (.cells #[.int .i64 sh,.slice none 0 0] 66))):=Lib.hid (by
  have hb:Below W2.heap.size W2 (W2.alloc (.cells #[.int .i64 sh,.slice none 0 0] 66)):=ball _;have hrl:=HX.out.lt;have ho2:=gb_heap HG2.out HO1.out (by omega);have hg:=gb_trans HG1.out HG2.out;exact ⟨QR.nil _ _ _ _ rfl,heap_alloc_new _ _,(hb.block _ (lt_of_block ho2)).trans ho2,HX2.out.below hb,(HM1.out.gb HX1.out.lt HG2.out).below HX2.out.lt hb,gb_trans hg (gb_below hb),hrl,hg.size,Nat.le_refl _,by have:=lt_of_block ho2;omega⟩)
 obtain ⟨cb,hcb⟩:∃b,W2.heap.size=b:=⟨_,rfl⟩;obtain ⟨ob,hob⟩:∃b,W.heap.size=b:=⟨_,rfl⟩;rw [hcb] at HL0;have HOB:=Lib.hid hob;go_upto_region 2 with fail
 try rw [hcb]
 try rw [hob]
 rw [hob] at HL0;clear hcb hob HX1 HM1 HO1 HG1 HX2 HG2;generalize W2.alloc (.cells #[.int .i64 sh,.slice none 0 0] 66)=W3 at HL0 ⊢;have HBL:=Lib.hid (belowC 17 HL0.out.x);have HR2:=Lib.hid (be_range (most:=17) (by omega) r1);have HOK2:=Lib.hid (fun hw=>be_ok (most:=17) (r:=r1) hw);obtain ⟨n,hn⟩:∃v,(beF 17 r1).1=v:=⟨_,rfl⟩;obtain ⟨r2,hr2⟩:∃v,(beF 17 r1).2=v:=⟨_,rfl⟩;have HE2:Hid (beF 17 r1= (n,r2)):=Lib.hid (by rw [←hn,←hr2]);rw [hn] at HR2 HOK2 HBL;rw [hr2] at HOK2 HBL;clear hn hr2;go_upto_region 3 with (refine HBL.out.mono ?_;rintro e W4 ⟨rfl,hx4,hg4⟩;have HL4:=Lib.hid (HL0.out.read hx4 hg4);clear hx4 hg4)
 clear HBL HL0;obtain ⟨x2,f2⟩:=HL4.out.x.c2;obtain ⟨wv,hwv⟩:∃b,r2.wrong=b:=⟨_,rfl⟩;have HW:=Lib.hid hwv;rw [hwv] at x2;clear hwv;have HCF:Hid (chF m r=if wv=true then (⟨sh,[]⟩,r2) else (⟨sh,(quF (fieldsN m sh) n.toNat r2).1⟩,(quF (fieldsN m sh) n.toNat r2).2)):=Lib.hid (by
  unfold chF;rw [HE1.out];simp only;rw [HE2.out];simp only;rw [HW.out])
 cases wv;rotate_left
 · have y0:W4.cell? ⟨cb,0,none⟩=some (.int .i64 sh):=(cell_of_row _ _ 0 _ _ _ HL4.out.c).trans rfl;have y1:W4.cell? ⟨cb,1,none⟩=some (.slice none 0 0):=(cell_of_row _ _ 1 _ _ _ HL4.out.c).trans rfl;have z0:W4.cell? ⟨ob,0,none⟩=some (.int .i64 0):=(cell_of_row _ _ 0 _ _ _ HL4.out.o).trans rfl;have z1:W4.cell? ⟨ob,1,none⟩=some (.slice none 0 0):=(cell_of_row _ _ 1 _ _ _ HL4.out.o).trans rfl;have g0:W4.frozen? ⟨ob,0,none⟩=false:=frozen_of_row _ _ _ _ _ HL4.out.o;have g1:W4.frozen? ⟨ob,1,none⟩=false:=frozen_of_row _ _ _ _ _ HL4.out.o;have HZ:Hid (ChP rb mb lb (chF m r) W (.returned (.agg #[.int .i64 sh,.slice none 0 0])) ((W4.setCell ⟨ob,0,none⟩ (.int .i64 sh)).setCell ⟨ob,1,none⟩ (.slice none 0 0))):=Lib.hid (by
    rw [HCF.out,if_pos rfl];have e1:=gb_set W4 ob 0 (.int .i64 sh);have e2:=gb_set (W4.setCell ⟨ob,0,none⟩ (.int .i64 sh)) ob 1 (.slice none 0 0);have e3:=gb_trans e1 e2;have hol:=HL4.out.ol;have hrl:=HL4.out.rl;exact ⟨none,0,rfl,QR.nil _ _ _ _ rfl,HL4.out.x.other e3 (by omega),⟨e3.os.trans HL4.out.g.os,e3.tape.trans HL4.out.g.tape,e3.output.trans HL4.out.g.output,Nat.le_trans HL4.out.g.size e3.size,fun p hp hne=>(e3.block p (Nat.lt_of_lt_of_le hp HL4.out.g.size) (by simp;omega)).trans (HL4.out.g.block p hp hne)⟩⟩)
   go_wp2_with fail;refine bodyPost_ret (v:= .agg #[.int .i64 sh,.slice none 0 0]) (by simp [results,Tryz.results70,go_sem,z0,z1,y0,y1,g0,g1]) rfl ?_;exact HZ.out
 · obtain ⟨w1,hn0,hn17⟩:=HOK2.out HW.out;have hsb:=be_ok (most:=(m.shapes.length:Int)) (r:=r) (by rw [HE1.out];exact w1);rw [HE1.out] at hsb;obtain ⟨-,hsh0,hsh1⟩:=hsb;simp only at hsh0 hsh1;obtain ⟨k,rfl⟩:∃k:Nat,n=k:=⟨n.toNat,by omega⟩;obtain ⟨sk,rfl⟩:∃k:Nat,sh=k:=⟨sh.toNat,by omega⟩;have hskl:sk < m.shapes.length:=by omega
   obtain ⟨p,hp⟩:∃p,m.shapes[sk]? =some p:=⟨_,List.getElem?_eq_getElem hskl⟩;have hfn:fieldsN m (sk:Int)=p.fields.length:=by unfold fieldsN;rw [Int.toNat_natCast,hp];rfl
   have hf8:=HF.out p (List.mem_of_getElem? hp);obtain ⟨f,hfe⟩:∃f,p.fields.length=f:=⟨_,rfl⟩;have HP:=Lib.hid hp;have HFE:=Lib.hid hfe;have HCF2:Hid (chF m r= (⟨(sk:Int),(quF f k r2).1⟩,(quF f k r2).2)):=Lib.hid (by rw [HCF.out,if_neg (by simp),hfn,hfe,Int.toNat_natCast]);rw [hfe] at hf8;obtain ⟨so,hso⟩:∃o,h.so=o:=⟨_,rfl⟩;have HSO:=Lib.hid hso;have HL5:Hid (∃qo qc,CL W rb mb lb cb ob h m (sk:Int) (quF f 0 r2).1 (quF f 0 r2).2 qo qc W4):=Lib.hid ⟨_,_,HL4.out⟩;obtain ⟨im,hi1,hi2,hi3,hi4⟩:=info_parts (show (Tryz.prog.info? 76).map (fun i=>(i.zero,i.size,i.bytes))=some (some (.slice none 0 0),1,24) by kernel_rfl);have HI:=Lib.hid (And.intro hi1 (And.intro hi2 (And.intro hi3 hi4)));have hk16: (k:Int) < 17:=hn17;have hsk1: (sk:Int) < m.shapes.length:=hsh1;have hsk0: (0:Int)≤sk:=hsh0;clear hp hfn hfe hso HCF HL4 HE2 HOK2 HR2 HR1 hi1 hi2 hi3 hi4 w1 hn0 hn17 hsh0 hsh1;go_wp2_with fail;clear x2 f2
   go_loopw [24] (fun iv W5=>∃i:Nat,iv= .int .i64 i∧i≤k∧Hid (∃qo qc,CL W rb mb lb cb ob h m (sk:Int) (quF f i r2).1 (quF f i r2).2 qo qc W5)) (fun iv _=>k - (intOf iv).toNat)
   case atStart=>exact ⟨0,rfl,by omega,HL5⟩
   case round=>
    clear HL5;obtain ⟨i,rfl,hi,HLX⟩:=hrel;obtain ⟨qo,qc,hcl⟩:=HLX.out;have HL:=Lib.hid hcl;clear hcl HLX;have hi0: (0:Int)≤i:=by omega
    by_cases hlt:i < k
    · have hlti: (i:Int) < k:=by omega
      have hql:=qu_len f i r2;obtain ⟨Q,hQ⟩:∃Q,(quF f i r2).1=Q:=⟨_,rfl⟩;obtain ⟨r3,hr3⟩:∃r3,(quF f i r2).2=r3:=⟨_,rfl⟩;rw [hQ] at hql;rw [hQ,hr3] at HL;have HST1:Hid (quF f (i+1) r2= (Q ++ [(liF f r3).1],(liF f r3).2)):=Lib.hid (by rw [quF,hQ,hr3]);have HFL:=Lib.hid (li_len f r3);obtain ⟨l,hl⟩:∃l,(liF f r3).1=l:=⟨_,rfl⟩;obtain ⟨r4,hr4⟩:∃l,(liF f r3).2=l:=⟨_,rfl⟩;have HLI:=Lib.hid (listC f (W:=wr.drew) (by omega) (HL.out.x.below (Below.refl _ _).drew));rw [hl,hr4] at HST1 HLI;rw [hl] at HFL;have HQL:=Lib.hid hql;have hql17:Q.length≤17:=by omega
      obtain ⟨gs,offs,ho,hgs,hsa⟩:=HL.out.m.md.shapes.get HP.out;obtain ⟨fo,fc,e1,-⟩:=hsa.fields;rw [HFE.out] at e1;have m2:wr.cell? ⟨mb,2,none⟩=some (.slice h.so m.shapes.length h.sc):=HL.out.m.cell rfl;rw [ho] at m2;have c0:=HL.out.x.c0;have y0:wr.cell? ⟨cb,0,none⟩=some (.int .i64 (sk:Int)):=(cell_of_row _ _ 0 _ _ _ HL.out.c).trans rfl;have y1:∀W',wr.grownBy W' (some rb)→W'.cell? ⟨cb,1,none⟩=some (.slice qo Q.length qc):=fun W' hg=>(cell_of_row _ _ 1 _ _ _ (gb_heap hg HL.out.c (by have:=HL.out.rl;have:=HL.out.cl;omega))).trans rfl
      have y2:∀W',wr.grownBy W' (some rb)→W'.frozen? ⟨cb,1,none⟩=false:=fun W' hg=>frozen_of_row _ _ _ _ _ (gb_heap hg HL.out.c (by have:=HL.out.rl;have:=HL.out.cl;omega))
      have hR:wr.grownBy wr (some rb):=gb_refl _ _;have hD:wr.grownBy wr.drew (some rb):=gbD (gb_refl _ _);have hAD:∀W',wr.grownBy W' (some rb)→wr.grownBy W'.drew (some rb):=fun W' hg=>gbD hg
      have hA:∀W' o,wr.grownBy W' (some rb)→wr.grownBy (W'.alloc o) (some rb):=fun W' o hg=>gbA hg o
      clear hsa ho hgs hQ hr3 hl hr4 hql;go_upto_region 7 with fail
      go_region_law
       (first
         | (refine step_append_keep rfl _ _ 64 rfl W.heap.size 76 im (.slice none 0 0) 1 24 Tryz.underlying64 HI.out.1 HI.out.2.1 HI.out.2.2.1 HI.out.2.2.2 rfl (by decide) (.slice qo Q.length qc) Q.length ys rfl (HOQ.out.alloc _) ⟨W5.heap.size,0,none⟩ 1 1 [.slice lo f lc] rfl rfl (arr_one _ _ _) (by simp [Value.oneCell']) (by unfold maxLen;omega) (by omega) HLE.out ?_;intro qo' qc' W6 hr6 hg6 hn6;have n6:W6.cell? ⟨cb,1,none⟩=some (.slice qo Q.length qc):=(World.cell?_of_block (a:=⟨cb,1,none⟩) (hg6.block _ HNE.out.1 HNE.out.2)).trans (y1 _ (hA _ _ hgB));have f6:W6.frozen? ⟨cb,1,none⟩=false:=(World.frozen?_of_block (a:=⟨cb,1,none⟩) (hg6.block _ HNE.out.1 HNE.out.2)).trans (y2 _ (hA _ _ hgB)))
         | (go_simp;go_at_call 68;refine HLI.out.mono ?_;rintro e W5 ⟨lo,lc,rfl,hol,hx5,hg5⟩;have hgB:wr.grownBy W5 (some rb):=gb_trans hD hg5;have HK5:=Lib.hid ((HL.out.below (Below.refl _ _).drew).read hx5 hg5);have HOL:Hid (W5.ownsRow W.heap.size 2 1 (.slice lo f lc) f (intsV l)):=Lib.hid (Joins.ownsRow_le hol HL.out.g.size);obtain ⟨ys,hoq,hqm⟩:=HK5.out.qr;have HOQ:=Lib.hid hoq;have HQM:=Lib.hid hqm;have HLE:Hid (W.heap.size≤ (W5.alloc (.cells #[.slice lo f lc] 76)).heap.size):=Lib.hid (by have:=HK5.out.g.size;simp;omega);have HNE:Hid (cb < (W5.alloc (.cells #[.slice lo f lc] 76)).heap.size∧some cb≠ (Value.slice qo Q.length qc).ownBlock):=Lib.hid ⟨by have:=lt_of_block HK5.out.c;simp;omega,fun e=>owns_neObj HOQ.out HK5.out.c (by simp) e.symm⟩;clear hol hx5 hg5 hoq hqm))
      all_goals (
       have HZ:Hid (∃qo qc,CL W rb mb lb cb ob h m (sk:Int) (quF f (i+1) r2).1 (quF f (i+1) r2).2 qo qc (W6.setCell ⟨cb,1,none⟩ (.slice qo' (Q.length+1) qc'))):=Lib.hid (by
        rw [HST1.out];have h9:=CL.step (l:=l) (lo:=lo) (lc:=lc) HK5.out HOQ.out HQM.out (by rw [HFL.out];exact HOL.out) hg6 (by rw [HFL.out];exact hr6);exact ⟨_,_,h9⟩)
       clear n6 f6 hr6 hg6 hn6 hgB HK5 HOL HOQ HQM HLE HNE y0 y1 y2 hR hD hAD hA m2 c0 e1
       try simp only [Exit.inBlock,Exit.then]
       go_wp2_with fail;go_roundw;case rel=>exact ⟨i+1,by go_num,by omega,HZ⟩
       case measure=>simp [intOf];omega)
    · have hlti:¬ (i:Int) < k:=by omega
      have hik:i=k:=by omega
      subst hik;have HZQ:=HL;obtain ⟨Q,hQ⟩:∃Q,(quF f i r2).1=Q:=⟨_,rfl⟩;obtain ⟨r3,hr3⟩:∃r3,(quF f i r2).2=r3:=⟨_,rfl⟩;rw [hQ,hr3] at HL;rw [hQ,hr3] at HCF2;clear hQ hr3 HZQ;have y0:wr.cell? ⟨cb,0,none⟩=some (.int .i64 (sk:Int)):=(cell_of_row _ _ 0 _ _ _ HL.out.c).trans rfl;have y1:wr.cell? ⟨cb,1,none⟩=some (.slice qo Q.length qc):=(cell_of_row _ _ 1 _ _ _ HL.out.c).trans rfl;have z0:wr.cell? ⟨ob,0,none⟩=some (.int .i64 0):=(cell_of_row _ _ 0 _ _ _ HL.out.o).trans rfl;have z1:wr.cell? ⟨ob,1,none⟩=some (.slice none 0 0):=(cell_of_row _ _ 1 _ _ _ HL.out.o).trans rfl;have g0:wr.frozen? ⟨ob,0,none⟩=false:=frozen_of_row _ _ _ _ _ HL.out.o;have g1:wr.frozen? ⟨ob,1,none⟩=false:=frozen_of_row _ _ _ _ _ HL.out.o;have HZ:Hid (ChP rb mb lb (chF m r) W (.returned (.agg #[.int .i64 (sk:Int),.slice qo Q.length qc])) ((wr.setCell ⟨ob,0,none⟩ (.int .i64 (sk:Int))).setCell ⟨ob,1,none⟩ (.slice qo Q.length qc))):=Lib.hid (by
       rw [HCF2.out];have e1:=gb_set wr ob 0 (.int .i64 (sk:Int));have e2:=gb_set (wr.setCell ⟨ob,0,none⟩ (.int .i64 (sk:Int))) ob 1 (.slice qo Q.length qc);have e3:=gb_trans e1 e2;have hol:=HL.out.ol;have hrl:=HL.out.rl;have q1:=HL.out.qr.set HL.out.o (by simp) (by simp) 0 (.int .i64 (sk:Int));have q2:=q1.set (heap_setCell_same _ _ _ _ _ _ HL.out.o) (by simp) (by simp) 1 (.slice qo Q.length qc);exact ⟨qo,qc,rfl,q2,HL.out.x.other e3 (by omega),⟨e3.os.trans HL.out.g.os,e3.tape.trans HL.out.g.tape,e3.output.trans HL.out.g.output,Nat.le_trans HL.out.g.size e3.size,fun p hp hne=>(e3.block p (Nat.lt_of_lt_of_le hp HL.out.g.size) (by simp;omega)).trans (HL.out.g.block p hp hne)⟩⟩)
      go_wp2_with fail;refine bodyPost_ret (v:= .agg #[.int .i64 (sk:Int),.slice qo Q.length qc]) (by simp [results,Tryz.results70,go_sem,z0,z1,y0,y1,g0,g1]) rfl ?_;exact HZ.out
end Go.Proofs.YtnoibjahliafpaaGreatDoor
