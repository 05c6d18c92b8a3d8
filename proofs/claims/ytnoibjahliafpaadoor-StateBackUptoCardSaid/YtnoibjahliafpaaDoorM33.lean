/- A state's text, as the program writes it. -/
import Derived.Test.YtnoibjahliafpaaDoorM32
import Derived.Test.YtnoibjahliafpaaDoorM03
import Derived.Laws.EntriesVeiled
import Derived.Test.YtnoibjahliafpaaDoorM25
set_option linter.unusedVariables false
set_option linter.unusedSimpArgs false
namespace Go.Proofs.YtnoibjahliafpaaDoor
open Go.ChangeShapes Go.WideShapes Go.ChangeAt Go.RowKit
theorem arr_at0 (W:World) (v:Value) (T:TypeId):∀j u,[v][j]? =some u→ (W.alloc (.cells #[v] T)).cell? ((⟨W.heap.size,0,none⟩:Addr).add j)=some u:=by
 intro j u hj;rw [held.add_off,cell_of_row _ _ _ _ _ _ (heap_alloc_new W _)];simpa using hj
theorem bytes_one (l:List UInt8):∀u ∈ Lib.byteCells l,u.oneCell'=true:=fun u hu=>by
 unfold Lib.byteCells at hu;obtain ⟨x,-,rfl⟩:=List.mem_map.1 hu;rfl
def EBx (B p:Nat) (L:List UInt8) (W:World):Prop:=∃o c,W.heap[p]? =some (.cells #[.slice o L.length c] 81 (0,0))∧W.ownsRow B 5 1 (.slice o L.length c) L.length (Lib.byteCells L)
def PutP (B p:Nat) (L:List UInt8) (W:World) (e:Ending) (W':World):Prop:=e= .returned (.tuple #[])∧EBx B p L W'∧Below B W W'∧Lib.OthersKept 5 (some p) W W'
theorem others_none {e:TypeId} {p:Nat} {w w':World} (h:Lib.OthersKept e none w w'):Lib.OthersKept e (some p) w w':=fun k o h1 _ h3=>h k o h1 (by simp) h3
theorem owns_kind {w:World} {B:Nat} {e:TypeId} {size n:Nat} {v:Value} {xs:List Value} (h:w.ownsRow B e size v n xs):∀g,v.ownBlock=some g→∃c fz,w.heap[g]? =some (.cells c e fz):=by
 intro g hg;rcases h.2 with ⟨rfl,_⟩ | ⟨g',cap,cur,rfl,_,hgg,_⟩
 · simp [Value.ownBlock] at hg
 · simp [Value.ownBlock] at hg;subst hg;exact ⟨cur,(0,0),hgg⟩
set_option maxHeartbeats 1000000 in
set_option maxRecDepth 100000 in
theorem putC (B p:Nat) (x:Int) (L:List UInt8) (W:World) (hB:B≤W.heap.size) (hp:B≤p) (he:EBx B p L W) (hx:inI x) (hl:L.length+100≤140737488355328) (ht:∀w',Below B W w'→TabP w'):
 Calls Tryd.prog 29 #[.int .i64 x,.pointer (some ⟨p,0,none⟩)] W (PutP B p (L ++ (Lib.itoa x ++ [44])) W):=by
 obtain ⟨o,c,hb,ho⟩:=he;have HI:=Lib.hid (appI B L.length x hx (.slice o L.length c) (Lib.byteCells L) W ho hB (by omega) ht);have HBX:=Lib.hid hb;have x0:W.cell? ⟨p,0,none⟩=some (.slice o L.length c):=(cell_of_row _ _ 0 _ _ _ hb).trans rfl;have HLE:=Lib.hid hB;have HPB:=Lib.hid hp;have hl2:=itoa20 hx;clear hb ho ht hx hB hp;obtain ⟨iu,hiu,iu0,iu1,iu2⟩:=info_parts info_u8;have HIU:=Lib.hid (And.intro hiu (And.intro iu0 (And.intro iu1 iu2)));clear hiu iu0 iu1 iu2;go_enter Tryd.func29,Tryd.ntmps29;go_wp2_with fail;refine HI.out.mono ?_;rintro e W1 ⟨o1,c1,rfl,hr1,hb1,hk1⟩;have HR1:=Lib.hid hr1;have HB1:=Lib.hid hb1;have HK1:=Lib.hid hk1;have HX1:=Lib.hid (hk1 p _ HBX.out (by simp) (by simp));have x1:W1.cell? ⟨p,0,none⟩=some (.slice o L.length c):=(cell_of_row _ _ 0 _ _ _ HX1.out).trans rfl;have f1:W1.frozen? ⟨p,0,none⟩=false:=frozen_of_row _ _ _ _ _ HX1.out;obtain ⟨n1,hn1⟩:∃n,L.length+ (Lib.itoa x).length=n:=⟨_,rfl⟩;have HX2:Hid ((W1.setCell ⟨p,0,none⟩ (.slice o1 n1 c1)).heap[p]? =some (.cells #[.slice o1 n1 c1] 81 (0,0))):=Lib.hid ((heap_setCell_same _ _ _ _ _ _ HX1.out).trans rfl);have HR2:Hid ((W1.setCell ⟨p,0,none⟩ (.slice o1 n1 c1)).ownsRow B 5 1 (.slice o1 n1 c1) n1 (Lib.byteCells L ++ Lib.byteCells (Lib.itoa x))):=Lib.hid (by
  rw [hn1] at hr1;exact owns_set hr1 _ _ (owns_neObj hr1 HX1.out (by simp)))
 have HB2:Hid (Below B W (W1.setCell ⟨p,0,none⟩ (.slice o1 n1 c1))):=Lib.hid (hb1.setCell HPB.out _);have HK2:Hid (Lib.OthersKept 5 (some p) W (W1.setCell ⟨p,0,none⟩ (.slice o1 n1 c1))):=Lib.hid ((others_none hk1).setCell ⟨p,0,none⟩ rfl _);rw [hn1];clear hr1 hb1 hk1 x0 HI HBX HR1 HB1 HK1 HX1;go_upto_region 1 with fail
 generalize W1.setCell ⟨p,0,none⟩ (.slice o1 n1 c1)=W2 at HX2 HR2 HB2 HK2 ⊢;clear x1 f1;have x2:W2.cell? ⟨p,0,none⟩=some (.slice o1 n1 c1):=(cell_of_row _ _ 0 _ _ _ HX2.out).trans rfl;have f2:W2.frozen? ⟨p,0,none⟩=false:=frozen_of_row _ _ _ _ _ HX2.out;go_wp2_with (at_builtin;refine wpList_append_keep rfl _ _ 81 rfl B 5 iu (.int .u8 0) 1 1 Tryd.underlying81 HIU.out.1 HIU.out.2.1 HIU.out.2.2.1 HIU.out.2.2.2 rfl (by decide) (.slice o1 n1 c1) n1 (Lib.byteCells L ++ Lib.byteCells (Lib.itoa x)) rfl (HR2.out.alloc _) ⟨W2.heap.size,0,none⟩ 1 1 [.int .u8 44] rfl rfl (arr_at0 _ _ _) (by simp [Value.oneCell']) (by unfold maxLen;omega) (by omega) (by simp;have:=HB2.out.size;have:=HLE.out;omega) ?_);intro o2 c2 W3 hr3 hg3 hn3;have hbx:Below W2.heap.size W2 (W2.alloc (.cells #[.int .u8 44] 5)):=ball _;have hpl:p < W2.heap.size:=lt_of_block HX2.out;have hne:some p≠ (Value.slice o1 n1 c1).ownBlock:=fun e=>owns_neObj HR2.out HX2.out (by simp) e.symm
 have hbp:W3.heap[p]? =some (.cells #[.slice o1 n1 c1] 81 (0,0)):=(hg3.block p (by simp;omega) hne).trans ((hbx.block p hpl).trans HX2.out);have HX3:=Lib.hid hbp;have HB3:Hid (Below B W W3):=Lib.hid ((HB2.out.trans (hbx.mono (Nat.le_trans HLE.out HB2.out.size))).grown hg3 (by simp;have:=HB2.out.size;have:=HLE.out;omega) (fun q hq=>(HR2.out.lt q hq).1));have HK3:Hid (Lib.OthersKept 5 (some p) W W3):=Lib.hid ((HK2.out.alloc _).grown hg3 (owns_kind (HR2.out.alloc _)));have x3:W3.cell? ⟨p,0,none⟩=some (.slice o1 n1 c1):=(cell_of_row _ _ 0 _ _ _ HX3.out).trans rfl;have f3:W3.frozen? ⟨p,0,none⟩=false:=frozen_of_row _ _ _ _ _ HX3.out;have HZ:Hid (PutP B p (L ++ (Lib.itoa x ++ [44])) W (.returned (.tuple #[])) (W3.setCell ⟨p,0,none⟩ (.slice o2 (n1+1) c2))):=Lib.hid (by
  have hlen:n1+1= (L ++ (Lib.itoa x ++ [44])).length:=by simp only [List.length_append,List.length_singleton];omega
  refine ⟨rfl,⟨o2,c2, ?_, ?_⟩,HB3.out.setCell HPB.out _,HK3.out.setCell ⟨p,0,none⟩ rfl _⟩
  · rw [←hlen];exact (heap_setCell_same _ _ _ _ _ _ HX3.out).trans rfl
  · rw [←hlen,cells_app,cells_app];have h9:=owns_set hr3 ⟨p,0,none⟩ (.slice o2 (n1+1) c2) (owns_neObj hr3 HX3.out (by simp));exact h9)
 clear hbx hpl hne hbp hr3 hg3 hn3 x2 f2 HX2 HR2 HB2 HK2;go_wp2_with fail;go_end0;exact HZ.out
def GBx (p q:Nat) (W:World):Prop:=W.heap[q]? =some (.cells #[.func (.func 29) #[] #[.pointer (some ⟨p,0,none⟩)]] 83 (0,0))
theorem EBx.below {B p:Nat} {L:List UInt8} {W W':World} (h:EBx B p L W) (hb:Below W.heap.size W W'):EBx B p L W':=by
 obtain ⟨o,c,h1,h2⟩:=h;exact ⟨o,c,(hb.block _ (lt_of_block h1)).trans h1,owns_below h2 hb⟩
set_option maxHeartbeats 1000000 in
set_option maxRecDepth 100000 in
theorem putAllC {B0:Nat} (B p q:Nat) (l ns:List Int) (o:Option Addr) (c:Nat) (W:World) (hB0:B0≤B) (hB:B≤W.heap.size) (hp:B≤p) (he:EBx B p (rowT ns) W) (hg:GBx p q W) (hl:Row B0 o 1 (intAt W) l) (hx:∀v ∈ ns ++ l,inI v) (hm: (ns ++ l).length≤8000) (ht:∀w',Below B W w'→TabP w'):
 Calls Tryd.prog 31 #[.slice o l.length c,.pointer (some ⟨q,0,none⟩)] W (PutP B p (rowT (ns ++ l)) W):=by
 have HE0:Hid (EBx B p (rowT (ns ++ l.take 0)) W∧Below B W W∧Lib.OthersKept 5 (some p) W W):=Lib.hid ⟨by simpa using he,Below.refl _ _,Lib.OthersKept.refl _ _ _⟩;have hqp:q≠p:=by
  rintro rfl;obtain ⟨o',c',b1,-⟩:=he;unfold GBx at hg;rw [b1] at hg;simp at hg
 have HH:=Lib.hid (And.intro hB0 (And.intro hB (And.intro hp (And.intro hg (And.intro hl (And.intro hx (And.intro hm ht)))))));have hll:=hl.1;clear hB0 hB hp he hg hl hx hm ht;go_enter Tryd.func31,Tryd.ntmps31;go_wp2_with fail
 go_loopw [7] (fun iv W'=>∃i:Nat,iv= .int .i64 i∧i≤l.length∧Hid (EBx B p (rowT (ns ++ l.take i)) W'∧Below B W W'∧Lib.OthersKept 5 (some p) W W')) (fun iv _=>l.length - (intOf iv).toNat)
 case atStart=>exact ⟨0,rfl,by omega,HE0⟩
 case round=>
  clear HE0;obtain ⟨i,rfl,hi,HE⟩:=hrel;have hi0: (0:Int)≤i:=by omega
  by_cases hlt:i < l.length
  · have hlti: (i:Int) < l.length:=by omega
    obtain ⟨h1,h2,h3,h4,h5,h6,h7,h8⟩:=HH.out;obtain ⟨k1,k2,k3⟩:=HE.out;obtain ⟨g,off,ho,hgB,e1⟩:=(h5.mono fun _ _ _ hg=>intAt.below (k2.mono h1) hg).cell hlt;subst ho;obtain ⟨v,hv⟩:∃v,l[i]=v:=⟨_,rfl⟩;rw [hv] at e1;unfold intAt at e1;rw [Nat.mul_one] at e1;have z1:wr.cell? ⟨q,0,none⟩=some (.func (.func 29) #[] #[.pointer (some ⟨p,0,none⟩)]):=(cell_of_row _ _ 0 _ _ _ (k3 q _ h4 (fun e=>hqp (by injection e)) (by simp))).trans rfl;have hvm:v ∈ l:=by rw [←hv];exact List.getElem_mem hlt
    have hpre:∀x ∈ ns ++ l.take i,inI x:=fun x hx=>h6 x (by
     rcases List.mem_append.1 hx with h | h
     · exact List.mem_append_left _ h
     · exact List.mem_append_right _ (List.mem_of_mem_take h))
    have hlen:=rowT_len hpre;have hpl: (ns ++ l.take i).length≤8000:=by
     rw [List.length_append,List.length_take];rw [List.length_append] at h7;omega
    have HP:=Lib.hid (putC B p v (rowT (ns ++ l.take i)) wr (Nat.le_trans h2 k2.size) h3 k1 (h6 v (List.mem_append_right _ hvm)) (by omega) (fun w' hw=>h8 w' (k2.trans hw)));have HE2:Hid (rowT (ns ++ l.take i) ++ (Lib.itoa v ++ [44])=rowT (ns ++ l.take (i+1))):=Lib.hid (by
     rw [List.take_succ_eq_append_getElem hlt,hv];simp only [rowT_append,rowT_one,List.append_assoc])
    have HB1:=Lib.hid k2;have HK1:=Lib.hid k3;clear h1 h2 h3 h4 h5 h6 h7 h8 k1 k2 k3 hv hvm hpre hlen hpl hgB;go_wp2_with fail;refine HP.out.mono ?_;rintro e W2 ⟨rfl,he2,hb2,hk2⟩;have HE3:Hid (EBx B p (rowT (ns ++ l.take (i+1))) W2∧Below B W W2∧Lib.OthersKept 5 (some p) W W2):=Lib.hid ⟨by rw [←HE2.out];exact he2,HB1.out.trans hb2,HK1.out.trans hk2⟩;clear he2 hb2 hk2 z1 e1 HP HE2;go_wp2_with fail;go_roundw;case rel=>exact ⟨i+1,by go_num,by omega,HE3⟩
    case measure=>simp [intOf];omega
  · have hlti:¬ (i:Int) < l.length:=by omega
    have HE3:Hid (PutP B p (rowT (ns ++ l)) W (.returned (.tuple #[])) wr):=Lib.hid (by
     obtain ⟨k1,k2,k3⟩:=HE.out;rw [List.take_of_length_le (by omega)] at k1;exact ⟨rfl,k1,k2,k3⟩)
    clear HE;go_wp2_with fail;go_end0;exact HE3.out
end Go.Proofs.YtnoibjahliafpaaDoor
namespace Go.Proofs.YtnoibjahliafpaaDoor
open Go.ChangeShapes Go.WideShapes Go.ChangeAt Go.RowKit
structure Ec (w0:World) (SC:Array Value) (p q:Nat) (ns:List Int) (W:World):Prop where
 bx:EBx w0.heap.size p (rowT ns) W
 g:GBx p q W
 s:W.heap[w0.heap.size]? =some (.cells SC 33 (0,0))
 hp:w0.heap.size≤p
 bel:Below w0.heap.size w0 W
section
variable {w0 W W':World} {SC:Array Value} {p q:Nat} {ns ns' l:List Int} {e:Ending}
theorem EBx.other {B p k:Nat} {L:List UInt8} {o:Obj} (h:EBx B p L W) (hk:W.heap[k]? =some o) (ho:∀c fz,o≠ .cells c 81 fz):some k≠some p:=by
 rintro e;injection e with e
 subst e;obtain ⟨a,b,h1,-⟩:=h;rw [h1] at hk;injection hk with hk
 exact ho _ _ hk.symm
theorem PutP.keep {B p k:Nat} {L L2:List UInt8} {o:Obj} (h:PutP B p L2 W e W') (hb:EBx B p L W) (hk:W.heap[k]? =some o) (ho:∀c fz,o≠ .cells c 81 fz) (ho2:∀c fz,o≠ .cells c 5 fz):W'.heap[k]? =some o:=
 h.2.2.2 k o hk (hb.other hk ho) ho2
theorem Ec.put (h:Ec w0 SC p q ns W) (hp:PutP w0.heap.size p (rowT ns') W e W'):Ec w0 SC p q ns' W':=
 ⟨hp.2.1,hp.keep h.bx h.g (by simp) (by simp),hp.keep h.bx h.s (by simp) (by simp),h.hp,h.bel.trans hp.2.2.1⟩
theorem Ec.below (h:Ec w0 SC p q ns W) (hb:Below W.heap.size W W'):Ec w0 SC p q ns W':=
 ⟨h.bx.below hb,(hb.block _ (lt_of_block h.g)).trans h.g,(hb.block _ (lt_of_block h.s)).trans h.s,h.hp,h.bel.trans (hb.mono h.bel.size)⟩
theorem Ec.put1 (h:Ec w0 SC p q ns W) (ht:TabW w0) {x:Int} (hx: (∀v ∈ ns ++ [x],inI v)∧ (ns ++ [x]).length≤8000):
 Calls Tryd.prog 29 #[.int .i64 x,.pointer (some ⟨p,0,none⟩)] W (PutP w0.heap.size p (rowT (ns ++ [x])) W):=by
 have h1:=rowT_len (l:=ns) fun v hv=>hx.1 v (List.mem_append_left _ hv)
 have h2:=hx.2;rw [List.length_append] at h2;have h3:=putC w0.heap.size p x (rowT ns) W h.bel.size h.hp h.bx (hx.1 x (by simp)) (by omega) (fun w' hw=>ht w' (h.bel.trans hw));rw [rowT_append,rowT_one];exact h3
theorem Ec.putL (h:Ec w0 SC p q ns W) (ht:TabW w0) {B:Nat} {o:Option Addr} (c:Nat) (hB:B≤w0.heap.size) (hl:Row B o 1 (intAt W) l) (hx: (∀v ∈ ns ++ l,inI v)∧ (ns ++ l).length≤8000):
 Calls Tryd.prog 31 #[.slice o l.length c,.pointer (some ⟨q,0,none⟩)] W (PutP w0.heap.size p (rowT (ns ++ l)) W):=
 putAllC w0.heap.size p q l ns o c W hB h.bel.size h.hp h.bx h.g hl hx.1 hx.2 (fun w' hw=>ht w' (h.bel.trans hw))
theorem Ec.cell (h:Ec w0 SC p q ns W) {i:Nat} {v:Value} (hv:SC[i]? =some v):W.cell? ⟨w0.heap.size,i,none⟩=some v:=(cell_of_row _ _ _ _ _ _ h.s).trans hv
theorem Ec.fn (h:Ec w0 SC p q ns W):W.cell? ⟨q,0,none⟩=some (.func (.func 29) #[] #[.pointer (some ⟨p,0,none⟩)]):=(cell_of_row _ _ 0 _ _ _ h.g).trans rfl
end
theorem str_back {W:World} {B:Nat} {L:List UInt8} {o:Option Addr} {c:Nat} (h:W.ownsRow B 5 1 (.slice o L.length c) L.length (Lib.byteCells L)) (hL:0 < L.length): (convert 81 9 (.slice o L.length c)).run Tryd.prog W= .ok (.string ⟨L.toArray⟩) W:=by
 rcases owns_row h with h0 | ⟨g,rfl,-,-,hc⟩
 · omega
 · refine run_convert_bytes_back W 81 9 5 ⟨g,0,none⟩ c L Tryd.underlying81 Tryd.underlying5 Tryd.underlying9 fun j hj=> ?_
   have h2:=hc j (by omega);rw [held.add_off,Nat.zero_add,h2];simp [Lib.byteCells,hj]
set_option maxHeartbeats 4000000 in
set_option maxRecDepth 100000 in
theorem encodedC {B:Nat} (s:StateD) (hs:SH) (w:World) (hB:B≤w.heap.size) (hsd:SD B w hs s) (ht:TabW w) (hall: (∀v ∈ numsOf s,inI v)∧ (numsOf s).length≤8000):
 Calls Tryd.prog 12 #[sV hs s] w fun e w'=>e= .returned (.string ⟨(textS s).toArray⟩)∧Below w.heap.size w w':=by
 obtain ⟨SC,hSC⟩:∃c,c=sCells hs s:=⟨_,rfl⟩;obtain ⟨p,hp⟩:∃p,w.heap.size+1=p:=⟨_,rfl⟩;obtain ⟨q,hq⟩:∃q,p+1=q:=⟨_,rfl⟩;obtain ⟨W0,hW0⟩:∃W,W= ((w.alloc (.cells SC 33)).alloc (.cells #[.slice none 0 0] 81)).alloc (.cells #[.func (.func 29) #[] #[.pointer (some ⟨p,0,none⟩)]] 83):=⟨_,rfl⟩;have HE0:Hid (Ec w SC p q [] W0):=Lib.hid (by
  rw [hW0];refine ⟨⟨none,0, ?_,World.ownsRow_nil _ _ _ _⟩, ?_, ?_,by omega,(((Below.refl _ _).alloc (Nat.le_refl _) _).alloc (by simp) _).alloc (by simp;omega) _⟩
  · exact (Below.heap_alloc _ _ _ (by simp;omega)).trans (new_at (by simp;omega))
  · exact new_at (by simp;omega)
  · exact (Below.heap_alloc _ _ _ (by simp;omega)).trans ((Below.heap_alloc _ _ _ (by simp)).trans (heap_alloc_new _ _)))
 have HT:=Lib.hid ht;have HB:=Lib.hid hB;have HSD:Hid (∀W,Below w.heap.size w W→SD B W hs s):=Lib.hid fun W hb=>hsd.below (hb.mono hB)
 have HOK:Hid (∀a b,numsOf s=a ++ b→ (∀v ∈ a,inI v)∧a.length≤8000):=Lib.hid fun a b h=>⟨fun v hv=>hall.1 v (by rw [h];exact List.mem_append_left _ hv),by have:=hall.2;rw [h,List.length_append] at this;omega⟩
 have HCE:Hid (∀ (W:World) ns,Ec w SC p q ns W→W.cell? ⟨w.heap.size,0,none⟩=some (.slice hs.go s.globals.length hs.gc)∧W.cell? ⟨w.heap.size,1,none⟩=some (.slice hs.co s.chans.length hs.cc)∧W.cell? ⟨w.heap.size,2,none⟩=some (.slice hs.po s.procs.length hs.pc)∧W.cell? ⟨w.heap.size,3,none⟩=some (.int .i64 s.last)∧W.cell? ⟨w.heap.size,4,none⟩=some (.int .i64 s.alone)∧W.cell? ⟨w.heap.size,5,none⟩=some (.int .i64 s.claim)):=Lib.hid fun W ns h=>by
  rw [hSC] at h;exact ⟨h.cell rfl,h.cell rfl,h.cell rfl,h.cell rfl,h.cell rfl,h.cell rfl⟩
 have HV:Hid (Value.agg SC=sV hs s):=Lib.hid (by rw [hSC];rfl);have hcl:=hsd.chans.1;have hprl:=hsd.procs.1;have hgl:=hsd.globals.1;unfold sV;rw [←hSC];clear hSC hsd ht hall hB;go_enter Tryd.func12,Tryd.ntmps12;go_upto_region 4 with fail
 rw [←hW0];clear hW0 hp hq;obtain ⟨x0,-,-,-,-,-⟩:=HCE.out W0 _ HE0.out;have HC:=Lib.hid (HE0.out.putL HT.out hs.gc HB.out (HSD.out _ HE0.out.bel).globals (HOK.out ([] ++ s.globals) _ (by unfold numsOf;rw [List.nil_append])));rw [List.nil_append] at HC;go_upto_region 5 with (refine HC.out.mono ?_;rintro e W1 hput;obtain rfl:=hput.1;have HE1:=Lib.hid (HE0.out.put hput);clear hput)
 clear HC HE0 x0;obtain ⟨-,x1,-,-,-,-⟩:=HCE.out W1 _ HE1.out;have y1:=HE1.out.fn;have HC:=Lib.hid (HE1.out.put1 HT.out (x:=(s.chans.length:Int)) (HOK.out _ (chansN s.chans ++ ((s.procs.length:Int) :: (procsN s.procs ++ [s.last,s.alone,s.claim]))) (by unfold numsOf;simp)));go_upto_region 6 with (refine HC.out.mono ?_;rintro e W2 hput;obtain rfl:=hput.1;have HE2:=Lib.hid (HE1.out.put hput);clear hput)
 clear HC HE1 x1 y1;obtain ⟨-,x1,-,-,-,-⟩:=HCE.out W2 _ HE2.out;have HE3:Hid (Ec w SC p q (pre1 s 0) W2):=Lib.hid HE2.out;obtain ⟨oc,hoc⟩:∃o,hs.co=o:=⟨_,rfl⟩;have HOC:=Lib.hid hoc;rw [hoc] at x1;clear HE2 hoc;go_wp2_with fail
 go_loopw [26] (fun iv W=>∃i:Nat,iv= .int .i64 i∧i≤s.chans.length∧Hid (Ec w SC p q (pre1 s i) W)) (fun iv _=>s.chans.length - (intOf iv).toNat)
 case atStart=>exact ⟨0,rfl,by omega,HE3⟩
 case round=>
  clear HE3 x1;obtain ⟨i,rfl,hi,HE⟩:=hrel;have hi0: (0:Int)≤i:=by omega
  by_cases hlt:i < s.chans.length
  · have hlti: (i:Int) < s.chans.length:=by omega
    obtain ⟨g,off,ho,hgB,hca⟩:=(HSD.out _ HE.out.bel).chans.cell hlt;obtain ⟨c,hc⟩:∃c,s.chans[i]=c:=⟨_,rfl⟩;have HNX:Hid (pre1 s (i+1)=pre1 s i ++ chanN c):=Lib.hid (by rw [←hc];exact pre1_succ hlt);have HSP:Hid (∃r,numsOf s=pre1 s i ++ (chanN c ++ r)):=Lib.hid (by rw [←hc];exact pre1_split hlt);rw [hc] at hca;obtain ⟨qo,qc,c1,hqr⟩:=hca.queue;have c0:=hca.c0;have HQR:Hid (∀W,Below w.heap.size w W→Row B qo 1 (msgAt B W) c.queue):=Lib.hid fun W hb=>by
     obtain ⟨g2,off2,ho2,-,hca2⟩:=(HSD.out _ hb).chans.cell hlt;rw [hc] at hca2;obtain ⟨qo2,qc2,e1,hqr2⟩:=hca2.queue;rw [ho] at ho2;injection ho2 with ho2
     injection ho2 with e2 e3
     subst e2 e3;have e4:W.cell? ⟨g,off+i*2+1,none⟩=wr.cell? ⟨g,off+i*2+1,none⟩:=by
      have hgw:g < w.heap.size:=Nat.lt_of_lt_of_le hgB HB.out;exact (hb.cell (p:=⟨g,off+i*2+1,none⟩) hgw).trans (HE.out.bel.cell (p:=⟨g,off+i*2+1,none⟩) hgw).symm
     rw [e1,c1] at e4;injection e4 with e4
     injection e4 with e5 e6 e7
     rw [←e5];exact hqr2
    have hql:=hqr.1;rw [HOC.out] at ho;subst ho;clear hca hqr hc hgB;have HEa:Hid (Ec w SC p q (pre1 s i) (wr.alloc (.cells #[.int .i64 c.shape,.slice qo c.queue.length qc] 61))):=Lib.hid (HE.out.below (ball _));have HXa:Hid ((wr.alloc (.cells #[.int .i64 c.shape,.slice qo c.queue.length qc] 61)).heap[wr.heap.size]? =some (.cells #[.int .i64 c.shape,.slice qo c.queue.length qc] 61 (0,0))):=Lib.hid (heap_alloc_new _ _);obtain ⟨cb,hcb⟩:∃cb,wr.heap.size=cb:=⟨_,rfl⟩;rw [hcb] at HXa;go_upto_region 9 with fail
    try rw [hcb]
    clear hcb HE c0 c1;generalize wr.alloc (.cells #[.int .i64 c.shape,.slice qo c.queue.length qc] 61)=W3 at HEa HXa ⊢;have y3:=HEa.out.fn;have b0:W3.cell? ⟨cb,0,none⟩=some (.int .i64 c.shape):=(cell_of_row _ _ 0 _ _ _ HXa.out).trans rfl;have HC:=Lib.hid (HEa.out.put1 HT.out (x:=c.shape) (by
     obtain ⟨r,hr⟩:=HSP.out;exact HOK.out _ ((c.queue.length:Int) :: (c.queue.flatten ++ r)) (by rw [hr];unfold chanN;simp)))
    go_upto_region 10 with (refine HC.out.mono ?_;rintro e W4 hput;obtain rfl:=hput.1;have HE4:=Lib.hid (HEa.out.put hput);have HX4:=Lib.hid (hput.keep HEa.out.bx HXa.out (by simp) (by simp));clear hput)
    clear HC HEa HXa y3 b0;have y4:=HE4.out.fn;have b1:W4.cell? ⟨cb,1,none⟩=some (.slice qo c.queue.length qc):=(cell_of_row _ _ 1 _ _ _ HX4.out).trans rfl;have HC:=Lib.hid (HE4.out.put1 HT.out (x:=(c.queue.length:Int)) (by
     obtain ⟨r,hr⟩:=HSP.out;exact HOK.out _ (c.queue.flatten ++ r) (by rw [hr];unfold chanN;simp)))
    go_upto_region 11 with (refine HC.out.mono ?_;rintro e W5 hput;obtain rfl:=hput.1;have HE5:=Lib.hid (HE4.out.put hput);have HX5:=Lib.hid (hput.keep HE4.out.bx HX4.out (by simp) (by simp));clear hput)
    clear HC HE4 HX4 y4 b1;have b1:W5.cell? ⟨cb,1,none⟩=some (.slice qo c.queue.length qc):=(cell_of_row _ _ 1 _ _ _ HX5.out).trans rfl;have HE6:Hid (Ec w SC p q (pre1 s i ++ [c.shape] ++ [(c.queue.length:Int)] ++ (c.queue.take 0).flatten) W5):=Lib.hid (by simpa using HE5.out);clear HE5 HX5;go_wp2_with fail
    go_loopw [42] (fun jv W=>∃j:Nat,jv= .int .i64 j∧j≤c.queue.length∧Hid (Ec w SC p q (pre1 s i ++ [c.shape] ++ [(c.queue.length:Int)] ++ (c.queue.take j).flatten) W)) (fun jv _=>c.queue.length - (intOf jv).toNat)
    case atStart=>exact ⟨0,rfl,by omega,HE6⟩
    case round=>
     clear HE6 b1;obtain ⟨j,rfl,hj,HE⟩:=hrel;have hj0: (0:Int)≤j:=by omega
     by_cases hjlt:j < c.queue.length
     · have hjlti: (j:Int) < c.queue.length:=by omega
       obtain ⟨g2,off2,ho2,hg2B,mo,mc,e1,hmr⟩:=(HQR.out _ HE.out.bel).cell hjlt;rw [Nat.mul_one] at e1;obtain ⟨x,hx⟩:∃x,c.queue[j]=x:=⟨_,rfl⟩;rw [hx] at e1 hmr;subst ho2;have HC:=Lib.hid (HE.out.putL HT.out mc HB.out hmr (by
        obtain ⟨r,hr⟩:=HSP.out;exact HOK.out _ ((c.queue.drop (j+1)).flatten ++ r) (by
         have h9:=flat_at id hjlt;simp only [List.map_id,id] at h9;rw [hr];unfold chanN;rw [h9,hx];simp)))
       have HNJ:Hid (pre1 s i ++ [c.shape] ++ [(c.queue.length:Int)] ++ (c.queue.take j).flatten ++ x=pre1 s i ++ [c.shape] ++ [(c.queue.length:Int)] ++ (c.queue.take (j+1)).flatten):=Lib.hid (by
        rw [List.take_succ_eq_append_getElem hjlt,hx];simp)
       clear hmr hx hg2B;go_wp2_with fail;refine HC.out.mono ?_;rintro e W6 hput;obtain rfl:=hput.1;have HE7:Hid (Ec w SC p q (pre1 s i ++ [c.shape] ++ [(c.queue.length:Int)] ++ (c.queue.take (j+1)).flatten) W6):=Lib.hid (by rw [←HNJ.out];exact HE.out.put hput);clear hput HC HE HNJ e1;go_wp2_with fail;go_roundw;case rel=>exact ⟨j+1,by go_num,by omega,HE7⟩
       case measure=>simp [intOf];omega
     · have hjlti:¬ (j:Int) < c.queue.length:=by omega
       have HE7:Hid (Ec w SC p q (pre1 s (i+1)) wr):=Lib.hid (by
        have h9:=HE.out;rw [List.take_of_length_le (by omega)] at h9;rw [HNX.out];have e:pre1 s i ++ chanN c=pre1 s i ++ [c.shape] ++ [(c.queue.length:Int)] ++ c.queue.flatten:=by unfold chanN;simp
        rw [e];exact h9)
       clear HE;go_wp2_with fail;go_roundw;case rel=>exact ⟨i+1,by go_num,by omega,HE7⟩
       case measure=>simp [intOf];omega
  · have hlti:¬ (i:Int) < s.chans.length:=by omega
    have HEp:Hid (Ec w SC p q (pre1 s s.chans.length) wr):=Lib.hid (by rw [show s.chans.length=i by omega];exact HE.out);clear HE;obtain ⟨-,-,x2,-,-,-⟩:=HCE.out wr _ HEp.out;have y2:=HEp.out.fn;have HC:=Lib.hid (HEp.out.put1 HT.out (x:=(s.procs.length:Int)) (by
     rw [pre1_end];exact HOK.out _ (procsN s.procs ++ [s.last,s.alone,s.claim]) (by unfold numsOf pre2;simp [procsN])))
    rw [pre1_end] at HC;go_wp2_with fail;go_upto_region 18 with (refine HC.out.mono ?_;rintro e W2 hput;obtain rfl:=hput.1;have HE2:=Lib.hid (HEp.out.put hput);clear hput)
    clear HC HEp x2 y2;obtain ⟨-,-,x2,-,-,-⟩:=HCE.out W2 _ HE2.out;obtain ⟨op,hop⟩:∃o,hs.po=o:=⟨_,rfl⟩;have HOP:=Lib.hid hop;rw [hop] at x2;clear hop;go_wp2_with fail
    go_loopw [59] (fun iv W=>∃i:Nat,iv= .int .i64 i∧i≤s.procs.length∧Hid (Ec w SC p q (pre2 s i) W)) (fun iv _=>s.procs.length - (intOf iv).toNat)
    case atStart=>exact ⟨0,rfl,by omega,HE2⟩
    case round=>
     clear HE2 x2;obtain ⟨j,rfl,hj,HE⟩:=hrel;have hj0: (0:Int)≤j:=by omega
     by_cases hjl:j < s.procs.length
     · have hjli: (j:Int) < s.procs.length:=by omega
       obtain ⟨g,off,ho,hgB,hca⟩:=(HSD.out _ HE.out.bel).procs.cell hjl;obtain ⟨c,hc⟩:∃c,s.procs[j]=c:=⟨_,rfl⟩;have HNX:Hid (pre2 s (j+1)=pre2 s j ++ procN c):=Lib.hid (by rw [←hc];exact pre2_succ hjl);have HSP:Hid (∃r,numsOf s=pre2 s j ++ (procN c ++ r)):=Lib.hid (by rw [←hc];exact pre2_split hjl);rw [hc] at hca;obtain ⟨qo,qc,c3,hqr⟩:=hca.frame;have c0:=hca.c0;have c1:=hca.c1;have c2:=hca.c2;have HQR:Hid (∀W,Below w.heap.size w W→Row B qo 1 (intAt W) c.frame):=Lib.hid fun W hb=>hqr.mono fun g a x hg h=>by
        have hgw:g < w.heap.size:=Nat.lt_of_lt_of_le hg HB.out;exact (hb.cell (p:=⟨g,a,none⟩) hgw).trans ((HE.out.bel.cell (p:=⟨g,a,none⟩) hgw).symm.trans h)
       have hql:=hqr.1;rw [HOP.out] at ho;subst ho;clear hca hqr hc hgB;obtain ⟨W3,hW3⟩:∃W,W=wr.alloc (.cells #[.int .i64 c.type,.int .i64 c.loc,.int .i64 c.prio,.slice qo c.frame.length qc] 63):=⟨_,rfl⟩;have HBa:Hid (Below wr.heap.size wr W3):=Lib.hid (by rw [hW3];exact ball _);have HEa:Hid (Ec w SC p q (pre2 s j) W3):=Lib.hid (HE.out.below HBa.out);have HXa:Hid (W3.heap[wr.heap.size]? =some (.cells #[.int .i64 c.type,.int .i64 c.loc,.int .i64 c.prio,.slice qo c.frame.length qc] 63 (0,0))):=Lib.hid (by rw [hW3];exact heap_alloc_new _ _);go_upto_region 21 with fail
       rw [←hW3];obtain ⟨cb,hcb⟩:∃cb,wr.heap.size=cb:=⟨_,rfl⟩;rw [hcb] at HXa ⊢;clear hW3 hcb HE c0 c1 c2 c3;have y3:=HEa.out.fn;have b0:W3.cell? ⟨cb,0,none⟩=some (.int .i64 c.type):=(cell_of_row _ _ 0 _ _ _ HXa.out).trans rfl;have HC:=Lib.hid (HEa.out.put1 HT.out (x:=c.type) (by
        obtain ⟨r,hr⟩:=HSP.out;exact HOK.out _ (c.loc :: (c.frame ++ r)) (by rw [hr];unfold procN;simp)))
       go_upto_region 22 with (refine HC.out.mono ?_;rintro e W4 hput;obtain rfl:=hput.1;have HE4:=Lib.hid (HEa.out.put hput);have HX4:=Lib.hid (hput.keep HEa.out.bx HXa.out (by simp) (by simp));clear hput)
       clear HC HEa HXa y3 b0;have y4:=HE4.out.fn;have b1:W4.cell? ⟨cb,1,none⟩=some (.int .i64 c.loc):=(cell_of_row _ _ 1 _ _ _ HX4.out).trans rfl;have HC:=Lib.hid (HE4.out.put1 HT.out (x:=c.loc) (by
        obtain ⟨r,hr⟩:=HSP.out;exact HOK.out _ (c.frame ++ r) (by rw [hr];unfold procN;simp)))
       go_upto_region 23 with (refine HC.out.mono ?_;rintro e W5 hput;obtain rfl:=hput.1;have HE5:=Lib.hid (HE4.out.put hput);have HX5:=Lib.hid (hput.keep HE4.out.bx HX4.out (by simp) (by simp));clear hput)
       clear HC HE4 HX4 y4 b1;have b3:W5.cell? ⟨cb,3,none⟩=some (.slice qo c.frame.length qc):=(cell_of_row _ _ 3 _ _ _ HX5.out).trans rfl;have HC:=Lib.hid (HE5.out.putL HT.out qc HB.out (HQR.out _ HE5.out.bel) (by
        obtain ⟨r,hr⟩:=HSP.out;exact HOK.out _ r (by rw [hr];unfold procN;simp)))
       go_wp2_with fail;refine HC.out.mono ?_;rintro e W6 hput;obtain rfl:=hput.1;have HE7:Hid (Ec w SC p q (pre2 s (j+1)) W6):=Lib.hid (by
        have h9:=HE5.out.put hput;rw [HNX.out];have e:pre2 s j ++ procN c=pre2 s j ++ [c.type] ++ [c.loc] ++ c.frame:=by unfold procN;simp
        rw [e];exact h9)
       clear hput HC HE5 HX5 HQR b3;go_wp2_with fail;go_roundw;case rel=>exact ⟨j+1,by go_num,by omega,HE7⟩
       case measure=>simp [intOf];omega
     · have hjli:¬ (j:Int) < s.procs.length:=by omega
       have HEp:Hid (Ec w SC p q (pre2 s s.procs.length) wr):=Lib.hid (by rw [show s.procs.length=j by omega];exact HE.out);clear HE;obtain ⟨-,-,-,x3,-,-⟩:=HCE.out wr _ HEp.out;have y3:=HEp.out.fn;have HN:=Lib.hid (pre2_end s);have HC:=Lib.hid (HEp.out.put1 HT.out (x:=s.last) (HOK.out _ [s.alone,s.claim] (by rw [←HN.out];simp)));go_wp2_with fail;go_upto_region 26 with (refine HC.out.mono ?_;rintro e W3 hput;obtain rfl:=hput.1;have HE3:=Lib.hid (HEp.out.put hput);clear hput)
       clear HC HEp x3 y3;obtain ⟨-,-,-,-,x4,-⟩:=HCE.out W3 _ HE3.out;have y4:=HE3.out.fn;have HC:=Lib.hid (HE3.out.put1 HT.out (x:=s.alone) (HOK.out _ [s.claim] (by rw [←HN.out];simp)));go_upto_region 27 with (refine HC.out.mono ?_;rintro e W4 hput;obtain rfl:=hput.1;have HE4:=Lib.hid (HE3.out.put hput);clear hput)
       clear HC HE3 x4 y4;obtain ⟨-,-,-,-,-,x5⟩:=HCE.out W4 _ HE4.out;have y5:=HE4.out.fn;have HC:=Lib.hid (HE4.out.put1 HT.out (x:=s.claim) (HOK.out _ [] (by rw [←HN.out];simp)));go_upto_region 28 with (refine HC.out.mono ?_;rintro e W5 hput;obtain rfl:=hput.1;have HE5:=Lib.hid (HE4.out.put hput);clear hput)
       clear HC HE4 x5 y5;have HE6:Hid (Ec w SC p q (numsOf s) W5):=Lib.hid (by
        rw [←HN.out];have h9:=HE5.out;simp only [List.append_assoc,List.cons_append,List.nil_append] at h9;exact h9)
       clear HE5;obtain ⟨oo,oc2,hb5,ho5⟩:=HE6.out.bx;have HB5:=Lib.hid HE6.out.bel;have x6:W5.cell? ⟨p,0,none⟩=some (.slice oo (textS s).length oc2):=(cell_of_row _ _ 0 _ _ _ hb5).trans rfl;have HCV:Hid ((convert 81 9 (.slice oo (textS s).length oc2)).run Tryd.prog W5= .ok (.string ⟨(textS s).toArray⟩) W5):=Lib.hid (str_back ho5 (text_pos s));clear hb5 ho5 HE6;have hcv:=HCV.out;go_wp2_with fail;go_ret;exact ⟨rfl,HB5.out⟩
end Go.Proofs.YtnoibjahliafpaaDoor
