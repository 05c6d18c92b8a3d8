/- Begins, as the document answers: every model, number and arguments. -/
import Derived.Test.YtnoibjahliafpaaGreatDoorM38
import Derived.Test.YtnoibjahliafpaaGreatDoorM34
import Derived.WalkKit
import Derived.ProofKit
import Derived.Below
import Derived.Outline
import Derived.BigQuiet
import Derived.Deep.QuietTactic
import Derived.Test.YtnoibjahliafpaaGreatDoorM06
import Derived.Test.YtnoibjahliafpaaGreatDoorM02
set_option linter.unusedVariables false
set_option linter.unusedSimpArgs false
namespace Go.Proofs.YtnoibjahliafpaaGreatDoor
open Go.ChangeShapes Go.WideShapes Go.ChangeAt Go.RowKit
set_option maxHeartbeats 4000000 in
set_option maxRecDepth 100000 in
theorem begins12H {h:MH} {m:ModelD} {args:List Int} {ao:Option Addr} {ac:Nat} (t:Int) (w:World) (hmw:MD w.heap.size w h m) (hab:ArgsB m) (hargl:args.length≤140737488355328):
 Calls Tryz.prog 10 #[mV h m,.int .i64 t,.slice ao args.length ac] w fun e w'=>e= .returned (.int .i64 (beginE m t args))∧Below w.heap.size w w':=by
 obtain ⟨CM,hCM⟩:∃c,c=mCells h m:=⟨_,rfl⟩;have HMX:Hid (Mx w w.heap.size CM h m (w.alloc (.cells CM 29))):=Lib.hid (Mx.new hmw hCM);have HIG:Hid (∀W,MD W.heap.size W h m→Calls Tryz.prog 9 #[.agg CM] W fun e w'=>e= .returned (.bool (goodB m))∧Below W.heap.size W w'):=Lib.hid (by
  rw [hCM];intro W h1;have h2:=mayH W h1 hab;have h3: ((checkL m).1 == 0)=goodB m:=by unfold goodB;by_cases h: (checkL m).1=0 <;> simp [h]
  rw [h3] at h2;exact h2)
 unfold mV;rw [←hCM];clear hCM hmw hab;go_enter Tryz.func10,Tryz.ntmps10;go_wp2_with (refine wpList_load_row rfl _ _ rfl _ rfl _ CM _ _ HMX.out.bx.box Tryz.underlying29 rfl HMX.out.info ?_);refine (HIG.out _ HMX.out.here).mono ?_;rintro e W2 ⟨rfl,hb2⟩;have HMX2:=Lib.hid (HMX.out.below hb2);clear HMX hb2 HIG;obtain ⟨gd,hgd⟩:∃b,goodB m=b:=⟨_,rfl⟩;have HGD:=Lib.hid hgd;rw [hgd];clear hgd;cases gd
 · go_wp2_with fail;go_ret;exact ⟨by unfold beginE;rw [if_neg (by rw [HGD.out];simp)];rfl,HMX2.out.bx.bel⟩
 have m4:=HMX2.out.c4;have m5:=HMX2.out.c5;have hpl:=HMX2.out.md.procs.1;have HBE:Hid (¬ (0≤t∧t < m.procs.length∧t≠m.claim∧ (((m.procs[t.toNat]?).map (·.params)).getD 0)=args.length)→beginE m t args=42):=Lib.hid fun hn=>by unfold beginE;rw [if_pos HGD.out,if_neg hn]
 by_cases hneg:t < 0
 · have hd:decide (t < 0)=true:=decide_eq_true hneg;have HX:=Lib.hid (HBE.out (by omega));clear hneg HBE;go_wp2_with fail;go_ret;exact ⟨by rw [HX.out];rfl,HMX2.out.bx.bel⟩
 obtain ⟨k,rfl⟩:∃k:Nat,t=k:=⟨t.toNat,by omega⟩;have hd:decide ((k:Int) < 0)=false:=decide_eq_false hneg;by_cases hge:m.procs.length≤k
 · have hd2:decide (m.procs.length≤k)=true:=decide_eq_true hge;have HX:=Lib.hid (HBE.out (by omega));clear hneg HBE hge;go_wp2_with fail;go_ret;exact ⟨by rw [HX.out];rfl,HMX2.out.bx.bel⟩
 have hd2:decide (m.procs.length≤k)=false:=decide_eq_false hge;by_cases hcl: (k:Int)=m.claim
 · have hd3: ((k:Int) == m.claim)=true:=by rw [beq_iff_eq];exact hcl
   have HX:=Lib.hid (HBE.out (fun h=>h.2.2.1 hcl));clear hneg HBE hge hcl;go_wp2_with fail;go_ret;exact ⟨by rw [HX.out];rfl,HMX2.out.bx.bel⟩
 have hd3: ((k:Int) == m.claim)=false:=by rw [beq_eq_false_iff_ne];exact hcl
 have hkl:k < m.procs.length:=by omega
 have hki: (k:Int) < m.procs.length:=by omega
 have hk0: (0:Int)≤k:=by omega
 obtain ⟨p,hp⟩:∃p,m.procs[k]? =some p:=⟨_,List.getElem?_eq_getElem hkl⟩;obtain ⟨gp,offp,hop,hgp,hpa⟩:=HMX2.out.md.procs.get hp;rw [hop] at m4;have c1:=hpa.c1;have HPT:=Lib.hid hp;have HPAR:Hid ((((m.procs[(k:Int).toNat]?).map (·.params)).getD 0)=p.params):=Lib.hid (by rw [Int.toNat_natCast,hp];rfl);clear hpa hp hgp hop;by_cases hpar:p.params=args.length;rotate_left
 · have hd4: ((args.length:Int) != p.params)=true:=by rw [bne_iff_ne];exact fun e=>hpar e.symm
   have HX:=Lib.hid (HBE.out (fun h=>hpar (HPAR.out.symm.trans h.2.2.2)));clear hneg HBE hge hcl hpar;go_wp2_with fail;go_ret;exact ⟨by rw [HX.out];rfl,HMX2.out.bx.bel⟩
 have hd4: ((args.length:Int) != p.params)=false:=by rw [bne_eq_false_iff_eq];exact hpar.symm
 have HX:Hid (beginE m k args=0):=Lib.hid (by
  unfold beginE;rw [if_pos HGD.out,if_pos ⟨hk0,hki,hcl,HPAR.out.trans hpar⟩])
 clear hneg HBE hge hcl hpar;go_wp2_with fail;go_ret;exact ⟨by rw [HX.out];rfl,HMX2.out.bx.bel⟩
end Go.Proofs.YtnoibjahliafpaaGreatDoor
namespace Go.Proofs.YtnoibjahliafpaaGreatDoor
open Go.ChangeShapes Go.WideShapes Go.ChangeAt Go.RowKit
theorem wp_region_kept {P:Program} {id:Nat} {Q:Exit→Act→World→Prop} {a:Act} {w:World} {l:List Oper} (hm:P.follows .mixedOrders=true) (hB:Region.lexB .any l.toArray=true)
 (h:∀ (ι:Type) (_:Nonempty ι) (f:ι→World),(∀n,Below w.heap.size w (f n))→ (∀n w',Below (f n).heap.size (f n) w'→∃m,w'=f m)→
   wpQuiet P l.toArray (fun w'=>∃n,w'=f n) (fun a'=>∀w',Below w.heap.size w w'→Q .normal a' w') l a): (Code.region id l.toArray true).wp P Q a w:=by
 refine wp_region_quiet (C:=fun w'=>∃n: { x // Below w.heap.size w x },w'=n.1) hm hB ⟨⟨_,(Below.refl _ _).drew⟩,rfl⟩ ?_;have h1:=h { x // Below w.heap.size w x } ⟨⟨w,Below.refl _ _⟩⟩ (fun n=>n.1) (fun n=>n.2) (fun n w' hw=>⟨⟨w',n.2.trans (hw.mono n.2.size)⟩,rfl⟩);have e: (fun a'=>∀w',Below w.heap.size w w'→Q .normal a' w')= (fun a'=>∀w',(∃n: { x // Below w.heap.size w x },w'=n.1)→Q .normal a' w'):=by
  funext a'
  apply propext;constructor
  · rintro g w' ⟨n,rfl⟩;exact g _ n.2
  · intro g w' hw;exact g w' ⟨⟨w',hw⟩,rfl⟩
 rw [e] at h1;simpa using h1
theorem kept_of {P:Program} {F:FuncId} {args:Array Value} {v:Value} {ι:Type} {f:ι→World} (hcl:∀n w',Below (f n).heap.size (f n) w'→∃m,w'=f m) (n:ι)
 (h:Calls P F args (f n) fun e w'=>e= .returned v∧Below (f n).heap.size (f n) w'):Calls P F args (f n) fun e w'=>e= .returned v∧∃m,w'=f m:=
 h.mono fun _ _ ⟨he,hb⟩=>⟨he,hcl n _ hb⟩
end Go.Proofs.YtnoibjahliafpaaGreatDoor
namespace Go.Proofs.YtnoibjahliafpaaGreatDoor
open Go.ChangeShapes Go.WideShapes Go.ChangeAt Go.RowKit
theorem list_eq_of {α:Type} {a b:List α} (hl:a.length=b.length) (h:∀j (hj:j < a.length) (hj2:j < b.length),a[j]=b[j]):a=b:=List.ext_getElem hl h
set_option maxRecDepth 100000 in
set_option maxHeartbeats 1000000 in
theorem numbers12H {B:Nat} (a b:List Int) (oa ob:Option Addr) (ca cb:Nat) (w:World) (hB:B≤w.heap.size) (ha:Row B oa 1 (intAt w) a) (hb:Row B ob 1 (intAt w) b):
 Calls Tryz.prog 12 #[.slice oa a.length ca,.slice ob b.length cb] w fun e w'=>e= .returned (.bool (decide (a=b)))∧Below w.heap.size w w':=by
 have HR:=Lib.hid (And.intro ha hb);have HBB:=Lib.hid hB;have la:=ha.1;have lb:=hb.1;have HB0:Hid (Below w.heap.size w w):=Lib.hid (Below.refl _ _);clear ha hb hB;by_cases hl:a.length=b.length;rotate_left
 · have d: ((a.length:Int) != (b.length:Int))=true:=by rw [bne_iff_ne];omega
   have HZ:Hid (decide (a=b)=false):=Lib.hid (decide_eq_false fun e=>hl (by rw [e]));clear hl;go_enter Tryz.func12,Tryz.ntmps12;go_wp2_with fail;go_ret;exact ⟨retB HZ.out.symm,HB0.out⟩
 have d: ((a.length:Int) != (b.length:Int))=false:=by rw [bne_eq_false_iff_eq];omega
 have HL:=Lib.hid hl;have hl1:a.length≤b.length:=by omega
 clear hl;go_enter Tryz.func12,Tryz.ntmps12;go_wp2_with fail;clear d
 go_loopw [5] (fun iv W=>∃i:Nat,iv= .int .i64 i∧i≤a.length∧Hid (∀j (hj:j < a.length) (hj2:j < b.length),j < i→a[j]=b[j])∧Hid (Below w.heap.size w W)) (fun iv _=>a.length - (intOf iv).toNat)
 case atStart=>exact ⟨0,rfl,by omega,Lib.hid fun j _ _ h=>by omega,HB0⟩
 case round=>
  clear HB0;obtain ⟨i,rfl,hi,HJ,HBW⟩:=hrel;have hi0: (0:Int)≤i:=by omega
  by_cases hlt:i < a.length
  · have hlti: (i:Int) < a.length:=by omega
    have hlt2:i < b.length:=by omega
    have hlti2: (i:Int) < b.length:=by omega
    obtain ⟨g1,off1,ho1,hg1,e1⟩:=(HR.out.1.mono fun _ _ _ hg=>intAt.below (HBW.out.mono HBB.out) hg).cell hlt;obtain ⟨g2,off2,ho2,hg2,e2⟩:=(HR.out.2.mono fun _ _ _ hg=>intAt.below (HBW.out.mono HBB.out) hg).cell hlt2;subst ho1 ho2;obtain ⟨x,hx⟩:∃q,a[i]=q:=⟨_,rfl⟩;obtain ⟨y,hy⟩:∃q,b[i]=q:=⟨_,rfl⟩;rw [hx] at e1;rw [hy] at e2;unfold intAt at e1 e2;rw [Nat.mul_one] at e1 e2;have HB3:Hid (∀n,Below w.heap.size w (wr.drewN n)):=Lib.hid fun n=>HBW.out.trans (bdrew (Below.refl _ _) n)
    have HS:Hid (x=y→∀j (hj:j < a.length) (hj2:j < b.length),j < i+1→a[j]=b[j]):=Lib.hid fun h j hj hj2 hji=>by
     by_cases e:j=i
     · subst e;rw [hx,hy,h]
     · exact HJ.out j hj hj2 (by omega)
    have HN:Hid (x≠y→decide (a=b)=false):=Lib.hid fun h=>decide_eq_false fun e=>h (by rw [←hx,←hy];simp only [e])
    clear hx hy hg1 hg2;by_cases z:x=y
    · have d: (x != y)=false:=by rw [bne_eq_false_iff_eq];exact z
      have HZ:=Lib.hid (HS.out z);clear z;go_wp2_with fail;go_quiet (fail);go_wp2_with fail;go_roundw;case rel=>exact ⟨i+1,by go_num,by omega,HZ,Lib.hid (HB3.out _)⟩
      case measure=>simp [intOf];omega
    · have d: (x != y)=true:=by rw [bne_iff_ne];exact z
      have HZ:=Lib.hid (HN.out z);clear z;go_wp2_with fail;go_quiet (fail);go_wp2_with fail;go_ret;exact ⟨retB HZ.out.symm,HB3.out _⟩
  · have hlti:¬ (i:Int) < a.length:=by omega
    have HZ:Hid (decide (a=b)=true):=Lib.hid (decide_eq_true (list_eq_of HL.out fun j hj hj2=>HJ.out j hj hj2 (by omega)));go_wp2_with fail;go_ret;exact ⟨retB HZ.out.symm,HBW.out⟩
def chanEqB (a b:ChanD):Bool:=decide (a.shape=b.shape∧a.queue=b.queue)
set_option maxRecDepth 100000 in
set_option maxHeartbeats 2000000 in
theorem sameChan12H {B:Nat} (a b:ChanD) (oa ob:Option Addr) (ca cb:Nat) (w:World) (hB:B≤w.heap.size) (ha:Row B oa 1 (msgAt B w) a.queue) (hb:Row B ob 1 (msgAt B w) b.queue):
 Calls Tryz.prog 31 #[.agg #[.int .i64 a.shape,.slice oa a.queue.length ca],.agg #[.int .i64 b.shape,.slice ob b.queue.length cb]] w fun e w'=>e= .returned (.bool (chanEqB a b))∧Below w.heap.size w w':=by
 have HR:=Lib.hid (And.intro ha hb);have HBB:=Lib.hid hB;have la:=ha.1;have lb:=hb.1;obtain ⟨CA,hCA⟩:∃c:Array Value,c= #[.int .i64 a.shape,.slice oa a.queue.length ca]:=⟨_,rfl⟩;obtain ⟨CB,hCB⟩:∃c:Array Value,c= #[.int .i64 b.shape,.slice ob b.queue.length cb]:=⟨_,rfl⟩;have HX:Hid (Bq w w.heap.size #[.int .i64 a.shape,.slice oa a.queue.length ca] 66 ((w.alloc (.cells #[.int .i64 a.shape,.slice oa a.queue.length ca] 66)).alloc (.cells #[.int .i64 b.shape,.slice ob b.queue.length cb] 66))∧Bq w (w.heap.size+1) #[.int .i64 b.shape,.slice ob b.queue.length cb] 66 ((w.alloc (.cells #[.int .i64 a.shape,.slice oa a.queue.length ca] 66)).alloc (.cells #[.int .i64 b.shape,.slice ob b.queue.length cb] 66))):=Lib.hid ⟨(Bq.new (Below.refl _ _) _ _).below (ball _),new_at (by simp),(Bq.new (Below.refl _ _) _ _).bel.alloc (by simp) _⟩;clear ha hb hB;go_enter Tryz.func31,Tryz.ntmps31;go_upto_region 1 with fail
 generalize (w.alloc (.cells #[.int .i64 a.shape,.slice oa a.queue.length ca] 66)).alloc (.cells #[.int .i64 b.shape,.slice ob b.queue.length cb] 66)=W0 at HX ⊢;clear hCA hCB;have x0:W0.cell? ⟨w.heap.size,0,none⟩=some (.int .i64 a.shape):=HX.out.1.cell rfl;have x1:W0.cell? ⟨w.heap.size,1,none⟩=some (.slice oa a.queue.length ca):=HX.out.1.cell rfl;have y0:W0.cell? ⟨w.heap.size+1,0,none⟩=some (.int .i64 b.shape):=HX.out.2.cell rfl;have y1:W0.cell? ⟨w.heap.size+1,1,none⟩=some (.slice ob b.queue.length cb):=HX.out.2.cell rfl;by_cases hs:a.shape=b.shape;rotate_left
 · have d: (a.shape != b.shape)=true:=by rw [bne_iff_ne];exact hs
   have HZ:Hid (chanEqB a b=false):=Lib.hid (decide_eq_false fun e=>hs e.1);clear hs;go_wp2_with fail;go_ret;exact ⟨retB HZ.out.symm,HX.out.1.bel⟩
 have d: (a.shape != b.shape)=false:=by rw [bne_eq_false_iff_eq];exact hs
 have HS:=Lib.hid hs;clear hs;by_cases hl:a.queue.length=b.queue.length;rotate_left
 · have d2: ((a.queue.length:Int) != (b.queue.length:Int))=true:=by rw [bne_iff_ne];omega
   have HZ:Hid (chanEqB a b=false):=Lib.hid (decide_eq_false fun e=>hl (by rw [e.2]));clear hl;go_wp2_with fail;go_ret;exact ⟨retB HZ.out.symm,HX.out.1.bel⟩
 have d2: ((a.queue.length:Int) != (b.queue.length:Int))=false:=by rw [bne_eq_false_iff_eq];omega
 have HL:=Lib.hid hl;have hl1:a.queue.length≤b.queue.length:=by omega
 clear hl;go_wp2_with fail;clear d d2 x0 x1 y0 y1
 go_loopw [5] (fun iv W=>∃i:Nat,iv= .int .i64 i∧i≤a.queue.length∧Hid (∀j (hj:j < a.queue.length) (hj2:j < b.queue.length),j < i→a.queue[j]=b.queue[j])∧Hid (Bq w w.heap.size #[.int .i64 a.shape,.slice oa a.queue.length ca] 66 W∧Bq w (w.heap.size+1) #[.int .i64 b.shape,.slice ob b.queue.length cb] 66 W)) (fun iv _=>a.queue.length - (intOf iv).toNat)
 case atStart=>exact ⟨0,rfl,by omega,Lib.hid fun j _ _ h=>by omega,HX⟩
 case round=>
  clear HX;obtain ⟨i,rfl,hi,HJ,HX⟩:=hrel;have hi0: (0:Int)≤i:=by omega
  have x1:wr.cell? ⟨w.heap.size,1,none⟩=some (.slice oa a.queue.length ca):=HX.out.1.cell rfl;by_cases hlt:i < a.queue.length
  · have hlti: (i:Int) < a.queue.length:=by omega
    have hlt2:i < b.queue.length:=by omega
    have hlti2: (i:Int) < b.queue.length:=by omega
    have HQ1:Hid (∀W,Below wr.heap.size wr W→Row B oa 1 (msgAt B W) a.queue):=Lib.hid fun W hb=>HR.out.1.mono fun _ _ _ hg=>msgAt.below ((HX.out.1.bel.trans (hb.mono HX.out.1.bel.size)).mono HBB.out) hg
    have HQ2:Hid (∀W,Below wr.heap.size wr W→Row B ob 1 (msgAt B W) b.queue):=Lib.hid fun W hb=>HR.out.2.mono fun _ _ _ hg=>msgAt.below ((HX.out.1.bel.trans (hb.mono HX.out.1.bel.size)).mono HBB.out) hg
    obtain ⟨g1,off1,ho1,hg1,m1,c1,e1,hr1⟩:=(HQ1.out wr (Below.refl _ _)).cell hlt;obtain ⟨g2,off2,ho2,hg2,m2,c2,e2,hr2⟩:=(HQ2.out wr (Below.refl _ _)).cell hlt2;obtain ⟨x,hx⟩:∃q,a.queue[i]=q:=⟨_,rfl⟩;obtain ⟨y,hy⟩:∃q,b.queue[i]=q:=⟨_,rfl⟩;rw [hx] at e1 hr1;rw [hy] at e2 hr2;rw [Nat.mul_one] at e1 e2;have hBW:B≤wr.heap.size:=Nat.le_trans HBB.out HX.out.1.bel.size;have HC:Hid (∀W,Below wr.heap.size wr W→Calls Tryz.prog 12 #[.slice m1 x.length c1,.slice m2 y.length c2] W fun e w'=>e= .returned (.bool (decide (x=y)))∧Below W.heap.size W w'):=Lib.hid fun W hb=>numbers12H (B:=B) x y m1 m2 c1 c2 W (Nat.le_trans hBW hb.size) (hr1.mono fun _ _ _ hg=>intAt.below (hb.mono hBW) hg) (hr2.mono fun _ _ _ hg=>intAt.below (hb.mono hBW) hg)
    have HS2:Hid (x=y→∀j (hj:j < a.queue.length) (hj2:j < b.queue.length),j < i+1→a.queue[j]=b.queue[j]):=Lib.hid fun h j hj hj2 hji=>by
     by_cases e:j=i
     · subst e;rw [hx,hy,h]
     · exact HJ.out j hj hj2 (by omega)
    have HN:Hid (x≠y→chanEqB a b=false):=Lib.hid fun h=>decide_eq_false fun e=>h (by rw [←hx,←hy];simp only [e.2])
    have HW:Hid (∀W,Below wr.heap.size wr W→W.cell? ⟨w.heap.size,1,none⟩=some (.slice oa a.queue.length ca)∧W.cell? ⟨w.heap.size+1,1,none⟩=some (.slice ob b.queue.length cb)∧W.cell? ⟨g1,off1+i,none⟩=some (.slice m1 x.length c1)∧W.cell? ⟨g2,off2+i,none⟩=some (.slice m2 y.length c2)):=Lib.hid fun W hb=>⟨(HX.out.1.below hb).cell rfl,(HX.out.2.below hb).cell rfl,(hb.cell (p:=⟨g1,off1+i,none⟩) (Nat.lt_of_lt_of_le hg1 hBW)).trans e1,(hb.cell (p:=⟨g2,off2+i,none⟩) (Nat.lt_of_lt_of_le hg2 hBW)).trans e2⟩
    clear hx hy hr1 hr2 hBW;obtain ⟨bb,hbb⟩:∃q,decide (x=y)=q:=⟨_,rfl⟩;have HBQ:=Lib.hid hbb;rw [hbb] at HC;clear hbb;go_upto_region 6 with fail
    refine wp_region_kept (by kernel_rfl) (by kernel_rfl) (fun ι hne f hf hcl=> ?_);have z1:∀n,(f n).cell? ⟨w.heap.size,1,none⟩=some (.slice (some ⟨g1,off1,none⟩) a.queue.length ca):=fun n=>by rw [←ho1];exact (HW.out _ (hf n)).1
    have z2:∀n,(f n).cell? ⟨w.heap.size+1,1,none⟩=some (.slice (some ⟨g2,off2,none⟩) b.queue.length cb):=fun n=>by rw [←ho2];exact (HW.out _ (hf n)).2.1
    have z3:∀n,(f n).cell? ⟨g1,off1+i,none⟩=some (.slice m1 x.length c1):=fun n=>(HW.out _ (hf n)).2.2.1
    have z4:∀n,(f n).cell? ⟨g2,off2+i,none⟩=some (.slice m2 y.length c2):=fun n=>(HW.out _ (hf n)).2.2.2
    have HA:=Lib.hid (fun n=>HC.out _ (hf n));have HF:=Lib.hid hcl;clear hcl hf x1 e1 e2 HC ho1 ho2 hg1 hg2
    repeat (go_big_quiet_step ((go_at_call 12;with_reducible exact kept_of HF.out _ (HA.out _))))
    refine wpQuiet_nil ?_;intro W1 hb1;have HX1:Hid (Bq w w.heap.size #[.int .i64 a.shape,.slice oa a.queue.length ca] 66 W1∧Bq w (w.heap.size+1) #[.int .i64 b.shape,.slice ob b.queue.length cb] 66 W1):=Lib.hid ⟨HX.out.1.below hb1,HX.out.2.below hb1⟩;clear hb1 z1 z2 z3 z4 HX HW HQ1 HQ2;cases bb
    · have HZ:=Lib.hid (HN.out (by have:=HBQ.out;rw [decide_eq_false_iff_not] at this;exact this));go_wp2_with fail;go_ret;exact ⟨retB HZ.out.symm,HX1.out.1.bel⟩
    · have HZ:=Lib.hid (HS2.out (by have:=HBQ.out;rw [decide_eq_true_eq] at this;exact this));go_wp2_with fail;go_roundw;case rel=>exact ⟨i+1,by go_num,by omega,HZ,HX1⟩
      case measure=>simp [intOf];omega
  · have hlti:¬ (i:Int) < a.queue.length:=by omega
    have HZ:Hid (chanEqB a b=true):=Lib.hid (decide_eq_true ⟨HS.out,list_eq_of HL.out fun j hj hj2=>HJ.out j hj hj2 (by omega)⟩);go_wp2_with fail;go_ret;exact ⟨retB HZ.out.symm,HX.out.1.bel⟩
end Go.Proofs.YtnoibjahliafpaaGreatDoor
namespace Go.Proofs.YtnoibjahliafpaaGreatDoor
open Go.ChangeShapes Go.WideShapes Go.ChangeAt Go.RowKit
noncomputable def sameB (s t:StateD):Bool:= @decide (s=t) (Classical.propDecidable _)
theorem sameB_yes {s t:StateD} (h:s=t):sameB s t=true:=by unfold sameB;simp [h]
theorem sameB_no {s t:StateD} (h:s≠t):sameB s t=false:=by unfold sameB;simp [h]
theorem state_ext {s t:StateD} (h1:s.globals=t.globals) (h2:s.chans=t.chans) (h3:s.procs=t.procs) (h4:s.last=t.last) (h5:s.alone=t.alone) (h6:s.claim=t.claim):s=t:=by
 cases s;cases t;simp_all
theorem chan_ext {a b:ChanD} (h:chanEqB a b=true):a=b:=by
 have:=of_decide_eq_true h;cases a;cases b;simp_all
theorem chan_next {a b:ChanD} (h:chanEqB a b=false):a≠b:=fun e=>by
 have:=of_decide_eq_false h;subst e;exact this ⟨rfl,rfl⟩
theorem proc_ext {a b:ProcessD} (h1:a.type=b.type) (h2:a.loc=b.loc) (h3:a.prio=b.prio) (h4:a.frame=b.frame):a=b:=by
 cases a;cases b;simp_all
structure Z2 (w:World) (B:Nat) (hs ht:SH) (s t:StateD) (W:World):Prop where
 a:Bq w w.heap.size (sCells hs s) 34 W
 b:Bq w (w.heap.size+1) (sCells ht t) 34 W
 sd:SD B W hs s
 td:SD B W ht t
 le:B≤w.heap.size
theorem Z2.below {w W W':World} {B:Nat} {hs ht:SH} {s t:StateD} (k:Z2 w B hs ht s t W) (hb:Below W.heap.size W W'):Z2 w B hs ht s t W':=
 have hB:=Nat.le_trans k.le k.a.bel.size
 ⟨k.a.below hb,k.b.below hb,k.sd.below (hb.mono hB),k.td.below (hb.mono hB),k.le⟩
theorem Z2.new {w:World} {B:Nat} {hs ht:SH} {s t:StateD} (hB:B≤w.heap.size) (h1:SD B w hs s) (h2:SD B w ht t):Z2 w B hs ht s t ((w.alloc (.cells (sCells hs s) 34)).alloc (.cells (sCells ht t) 34)):=by
 have hb:Below w.heap.size w ((w.alloc (.cells (sCells hs s) 34)).alloc (.cells (sCells ht t) 34)):=((Below.refl _ _).alloc (Nat.le_refl _) _).alloc (by simp) _;exact ⟨(Bq.new (Below.refl _ _) _ _).below (ball _),⟨new_at (by simp),hb⟩,h1.below (hb.mono hB),h2.below (hb.mono hB),hB⟩
theorem Z2.leW {w W:World} {B:Nat} {hs ht:SH} {s t:StateD} (k:Z2 w B hs ht s t W):B≤W.heap.size:=Nat.le_trans k.le k.a.bel.size
set_option maxRecDepth 100000 in
set_option maxHeartbeats 2000000 in
theorem same12H {B:Nat} (s t:StateD) (hs ht:SH) (w:World) (hB:B≤w.heap.size) (h1:SD B w hs s) (h2:SD B w ht t):
 Calls Tryz.prog 13 #[sV hs s,sV ht t] w fun e w'=>e= .returned (.bool (sameB s t))∧Below w.heap.size w w':=by
 have HX:=Lib.hid (Z2.new hB h1 h2);have lg1:=h1.globals.1;have lg2:=h2.globals.1;have lc1:=h1.chans.1;have lc2:=h2.chans.1;have lp1:=h1.procs.1;have lp2:=h2.procs.1;clear h1 h2 hB;unfold sCells at HX;unfold sV sCells;go_enter Tryz.func13,Tryz.ntmps13;go_upto_region 1 with fail
 generalize (w.alloc (.cells #[.slice hs.go s.globals.length hs.gc,.slice hs.co s.chans.length hs.cc,.slice hs.po s.procs.length hs.pc,.int .i64 s.last,.int .i64 s.alone,.int .i64 s.claim] 34)).alloc (.cells #[.slice ht.go t.globals.length ht.gc,.slice ht.co t.chans.length ht.cc,.slice ht.po t.procs.length ht.pc,.int .i64 t.last,.int .i64 t.alone,.int .i64 t.claim] 34)=W0 at HX ⊢;have x0:W0.cell? ⟨w.heap.size,0,none⟩=some (.slice hs.go s.globals.length hs.gc):=HX.out.a.cell rfl;have y0:W0.cell? ⟨w.heap.size+1,0,none⟩=some (.slice ht.go t.globals.length ht.gc):=HX.out.b.cell rfl;have HN:=Lib.hid (numbers12H (B:=B) s.globals t.globals hs.go ht.go hs.gc ht.gc W0 HX.out.leW HX.out.sd.globals HX.out.td.globals);go_wp2_with fail;refine HN.out.mono ?_;rintro e W1 ⟨rfl,hb1⟩;have HX1:=Lib.hid (HX.out.below hb1);clear hb1 HN HX x0 y0;have x1:W1.cell? ⟨w.heap.size,1,none⟩=some (.slice hs.co s.chans.length hs.cc):=HX1.out.a.cell rfl;have x2:W1.cell? ⟨w.heap.size,2,none⟩=some (.slice hs.po s.procs.length hs.pc):=HX1.out.a.cell rfl;have x3:W1.cell? ⟨w.heap.size,3,none⟩=some (.int .i64 s.last):=HX1.out.a.cell rfl;have x4:W1.cell? ⟨w.heap.size,4,none⟩=some (.int .i64 s.alone):=HX1.out.a.cell rfl;have x5:W1.cell? ⟨w.heap.size,5,none⟩=some (.int .i64 s.claim):=HX1.out.a.cell rfl;have y1:W1.cell? ⟨w.heap.size+1,1,none⟩=some (.slice ht.co t.chans.length ht.cc):=HX1.out.b.cell rfl;have y2:W1.cell? ⟨w.heap.size+1,2,none⟩=some (.slice ht.po t.procs.length ht.pc):=HX1.out.b.cell rfl;have y3:W1.cell? ⟨w.heap.size+1,3,none⟩=some (.int .i64 t.last):=HX1.out.b.cell rfl;have y4:W1.cell? ⟨w.heap.size+1,4,none⟩=some (.int .i64 t.alone):=HX1.out.b.cell rfl;have y5:W1.cell? ⟨w.heap.size+1,5,none⟩=some (.int .i64 t.claim):=HX1.out.b.cell rfl;obtain ⟨b0,hb0⟩:∃b,decide (s.globals=t.globals)=b:=⟨_,rfl⟩;rw [hb0];have HG:=Lib.hid hb0;clear hb0;cases b0
 · have HZ:Hid (sameB s t=false):=Lib.hid (sameB_no fun e=>of_decide_eq_false HG.out (by rw [e]));go_wp2_with fail;go_ret;exact ⟨retB HZ.out.symm,HX1.out.a.bel⟩
 by_cases z3:s.last=t.last;rotate_left
 · have d3: (s.last != t.last)=true:=by rw [bne_iff_ne];exact z3
   have HZ:Hid (sameB s t=false):=Lib.hid (sameB_no fun e=>z3 (by rw [e]));clear z3;go_wp2_with fail;go_ret;exact ⟨retB HZ.out.symm,HX1.out.a.bel⟩
 have d3: (s.last != t.last)=false:=by rw [bne_eq_false_iff_eq];exact z3
 have H3:=Lib.hid z3;clear z3;by_cases z4:s.alone=t.alone;rotate_left
 · have d4: (s.alone != t.alone)=true:=by rw [bne_iff_ne];exact z4
   have HZ:Hid (sameB s t=false):=Lib.hid (sameB_no fun e=>z4 (by rw [e]));clear z4;go_wp2_with fail;go_ret;exact ⟨retB HZ.out.symm,HX1.out.a.bel⟩
 have d4: (s.alone != t.alone)=false:=by rw [bne_eq_false_iff_eq];exact z4
 have H4:=Lib.hid z4;clear z4;by_cases z5:s.claim=t.claim;rotate_left
 · have d5: (s.claim != t.claim)=true:=by rw [bne_iff_ne];exact z5
   have HZ:Hid (sameB s t=false):=Lib.hid (sameB_no fun e=>z5 (by rw [e]));clear z5;go_wp2_with fail;go_ret;exact ⟨retB HZ.out.symm,HX1.out.a.bel⟩
 have d5: (s.claim != t.claim)=false:=by rw [bne_eq_false_iff_eq];exact z5
 have H5:=Lib.hid z5;clear z5;by_cases z1:s.chans.length=t.chans.length;rotate_left
 · have d1: ((s.chans.length:Int) != (t.chans.length:Int))=true:=by rw [bne_iff_ne];omega
   have HZ:Hid (sameB s t=false):=Lib.hid (sameB_no fun e=>z1 (by rw [e]));clear z1;go_wp2_with fail;go_ret;exact ⟨retB HZ.out.symm,HX1.out.a.bel⟩
 have d1: ((s.chans.length:Int) != (t.chans.length:Int))=false:=by rw [bne_eq_false_iff_eq];omega
 have H1:=Lib.hid z1;have l1:s.chans.length≤t.chans.length:=by omega
 clear z1;by_cases z2:s.procs.length=t.procs.length;rotate_left
 · have d2: ((s.procs.length:Int) != (t.procs.length:Int))=true:=by rw [bne_iff_ne];omega
   have HZ:Hid (sameB s t=false):=Lib.hid (sameB_no fun e=>z2 (by rw [e]));clear z2;go_wp2_with fail;go_ret;exact ⟨retB HZ.out.symm,HX1.out.a.bel⟩
 have d2: ((s.procs.length:Int) != (t.procs.length:Int))=false:=by rw [bne_eq_false_iff_eq];omega
 have H2:=Lib.hid z2;have l2:s.procs.length≤t.procs.length:=by omega
 clear z2;go_wp2_with fail;clear d1 d2 d3 d4 d5 x1 x2 x3 x4 x5 y1 y2 y3 y4 y5
 go_loopw [6] (fun iv W=>∃i:Nat,iv= .int .i64 i∧i≤s.chans.length∧Hid (∀j (hj:j < s.chans.length) (hj2:j < t.chans.length),j < i→s.chans[j]=t.chans[j])∧Hid (Z2 w B hs ht s t W)) (fun iv _=>s.chans.length - (intOf iv).toNat)
 case atStart=>exact ⟨0,rfl,by omega,Lib.hid fun j _ _ h=>by omega,HX1⟩
 case round=>
  clear HX1;obtain ⟨i,rfl,hi,HJ,HX⟩:=hrel;have hi0: (0:Int)≤i:=by omega
  have x1:wr.cell? ⟨w.heap.size,1,none⟩=some (.slice hs.co s.chans.length hs.cc):=HX.out.a.cell rfl;by_cases hlt:i < s.chans.length
  · have hlti: (i:Int) < s.chans.length:=by omega
    have hlt2:i < t.chans.length:=by omega
    have hlti2: (i:Int) < t.chans.length:=by omega
    obtain ⟨g1,off1,ho1,hg1,ha⟩:=HX.out.sd.chans.cell hlt;obtain ⟨g2,off2,ho2,hg2,hb⟩:=HX.out.td.chans.cell hlt2;obtain ⟨x,hx⟩:∃q,s.chans[i]=q:=⟨_,rfl⟩;obtain ⟨y,hy⟩:∃q,t.chans[i]=q:=⟨_,rfl⟩;rw [hx] at ha;rw [hy] at hb;obtain ⟨m1,c1,e1,hr1⟩:=ha.queue;obtain ⟨m2,c2,e2,hr2⟩:=hb.queue;have f1:=ha.c0;have f2:=hb.c0;have HC:Hid (∀W,Below wr.heap.size wr W→Calls Tryz.prog 31 #[.agg #[.int .i64 x.shape,.slice m1 x.queue.length c1],.agg #[.int .i64 y.shape,.slice m2 y.queue.length c2]] W fun e w'=>e= .returned (.bool (chanEqB x y))∧Below W.heap.size W w'):=Lib.hid fun W hbw=>sameChan12H (B:=B) x y m1 m2 c1 c2 W (Nat.le_trans HX.out.leW hbw.size) (hr1.mono fun _ _ _ hg=>msgAt.below (hbw.mono HX.out.leW) hg) (hr2.mono fun _ _ _ hg=>msgAt.below (hbw.mono HX.out.leW) hg)
    have HS2:Hid (x=y→∀j (hj:j < s.chans.length) (hj2:j < t.chans.length),j < i+1→s.chans[j]=t.chans[j]):=Lib.hid fun h j hj hj2 hji=>by
     by_cases e:j=i
     · subst e;rw [hx,hy,h]
     · exact HJ.out j hj hj2 (by omega)
    have HN:Hid (x≠y→sameB s t=false):=Lib.hid fun h=>sameB_no fun e=>h (by rw [←hx,←hy];simp only [e])
    have HW:Hid (∀W,Below wr.heap.size wr W→W.cell? ⟨w.heap.size,1,none⟩=some (.slice hs.co s.chans.length hs.cc)∧W.cell? ⟨w.heap.size+1,1,none⟩=some (.slice ht.co t.chans.length ht.cc)∧W.cell? ⟨g1,off1+i*2,none⟩=some (.int .i64 x.shape)∧W.cell? ⟨g1,off1+i*2+1,none⟩=some (.slice m1 x.queue.length c1)∧W.cell? ⟨g2,off2+i*2,none⟩=some (.int .i64 y.shape)∧W.cell? ⟨g2,off2+i*2+1,none⟩=some (.slice m2 y.queue.length c2)):=Lib.hid fun W hbw=>
     have q1:=Nat.lt_of_lt_of_le hg1 HX.out.leW;have q2:=Nat.lt_of_lt_of_le hg2 HX.out.leW
     ⟨(HX.out.a.below hbw).cell rfl,(HX.out.b.below hbw).cell rfl,(hbw.cell (p:=⟨g1,off1+i*2,none⟩) q1).trans f1,(hbw.cell (p:=⟨g1,off1+i*2+1,none⟩) q1).trans e1,(hbw.cell (p:=⟨g2,off2+i*2,none⟩) q2).trans f2,(hbw.cell (p:=⟨g2,off2+i*2+1,none⟩) q2).trans e2⟩
    clear hx hy hr1 hr2 ha hb;obtain ⟨bb,hbb⟩:∃q,chanEqB x y=q:=⟨_,rfl⟩;have HBQ:=Lib.hid hbb;rw [hbb] at HC;clear hbb;go_upto_region 7 with fail
    refine wp_region_kept (by kernel_rfl) (by kernel_rfl) (fun ι hne f hf hcl=> ?_);have z1:∀n,(f n).cell? ⟨w.heap.size,1,none⟩=some (.slice (some ⟨g1,off1,none⟩) s.chans.length hs.cc):=fun n=>by rw [←ho1];exact (HW.out _ (hf n)).1
    have z2:∀n,(f n).cell? ⟨w.heap.size+1,1,none⟩=some (.slice (some ⟨g2,off2,none⟩) t.chans.length ht.cc):=fun n=>by rw [←ho2];exact (HW.out _ (hf n)).2.1
    have z3:∀n,(f n).cell? ⟨g1,off1+i*2,none⟩=some (.int .i64 x.shape):=fun n=>(HW.out _ (hf n)).2.2.1
    have z4:∀n,(f n).cell? ⟨g1,off1+i*2+1,none⟩=some (.slice m1 x.queue.length c1):=fun n=>(HW.out _ (hf n)).2.2.2.1
    have z5:∀n,(f n).cell? ⟨g2,off2+i*2,none⟩=some (.int .i64 y.shape):=fun n=>(HW.out _ (hf n)).2.2.2.2.1
    have z6:∀n,(f n).cell? ⟨g2,off2+i*2+1,none⟩=some (.slice m2 y.queue.length c2):=fun n=>(HW.out _ (hf n)).2.2.2.2.2
    have HA:=Lib.hid (fun n=>HC.out _ (hf n));have HF:=Lib.hid hcl;clear hcl hf x1 e1 e2 f1 f2 HC ho1 ho2 hg1 hg2
    repeat (go_big_quiet_step ((go_at_call 31;with_reducible exact kept_of HF.out _ (HA.out _))))
    refine wpQuiet_nil ?_;intro W1 hb1;have HX1:=Lib.hid (HX.out.below hb1);clear hb1 z1 z2 z3 z4 z5 z6 HX HW;cases bb
    · have HZ:=Lib.hid (HN.out (chan_next HBQ.out));go_wp2_with fail;go_ret;exact ⟨retB HZ.out.symm,HX1.out.a.bel⟩
    · have HZ:=Lib.hid (HS2.out (chan_ext HBQ.out));go_wp2_with fail;go_roundw;case rel=>exact ⟨i+1,by go_num,by omega,HZ,HX1⟩
      case measure=>simp [intOf];omega
  have hlti:¬ (i:Int) < s.chans.length:=by omega
  have HCH:Hid (s.chans=t.chans):=Lib.hid (list_eq_of H1.out fun j hj hj2=>HJ.out j hj hj2 (by omega));clear HJ hlt;go_wp2_with fail;clear x1
  go_loopw [7] (fun jv W=>∃j:Nat,jv= .int .i64 j∧j≤s.procs.length∧Hid (∀k (hk:k < s.procs.length) (hk2:k < t.procs.length),k < j→s.procs[k]=t.procs[k])∧Hid (Z2 w B hs ht s t W)) (fun jv _=>s.procs.length - (intOf jv).toNat)
  case atStart=>exact ⟨0,rfl,by omega,Lib.hid fun j _ _ h=>by omega,HX⟩
  case round=>
   clear HX;obtain ⟨j,rfl,hj,HJ,HX⟩:=hrel;have hj0: (0:Int)≤j:=by omega
   have x2:wr.cell? ⟨w.heap.size,2,none⟩=some (.slice hs.po s.procs.length hs.pc):=HX.out.a.cell rfl;by_cases hlt:j < s.procs.length
   · have hltj: (j:Int) < s.procs.length:=by omega
     have hlt2:j < t.procs.length:=by omega
     have hltj2: (j:Int) < t.procs.length:=by omega
     obtain ⟨g1,off1,ho1,hg1,ha⟩:=HX.out.sd.procs.cell hlt;rw [ho1] at x2;obtain ⟨x,hx⟩:∃q,s.procs[j]=q:=⟨_,rfl⟩;rw [hx] at ha;obtain ⟨m1,c1,q3,hr1⟩:=ha.frame;have q0:=ha.c0;have q1:=ha.c1;have q2:=ha.c2;have HR1:Hid (∀W,Below wr.heap.size wr W→Row B m1 1 (intAt W) x.frame):=Lib.hid fun W hb=>hr1.mono fun _ _ _ hg=>intAt.below (hb.mono HX.out.leW) hg
     have HX1:=Lib.hid (HX.out.below (ball (.cells #[.int .i64 x.type,.int .i64 x.loc,.int .i64 x.prio,.slice m1 x.frame.length c1] 39)));have HP1:Hid (Bq wr wr.heap.size #[.int .i64 x.type,.int .i64 x.loc,.int .i64 x.prio,.slice m1 x.frame.length c1] 39 (wr.alloc (.cells #[.int .i64 x.type,.int .i64 x.loc,.int .i64 x.prio,.slice m1 x.frame.length c1] 39))):=Lib.hid (Bq.new (Below.refl _ _) _ _);clear ha ho1 hg1 hr1;go_upto_region 14 with fail
     generalize wr.alloc (.cells #[.int .i64 x.type,.int .i64 x.loc,.int .i64 x.prio,.slice m1 x.frame.length c1] 39)=W1 at HX1 HP1 ⊢;obtain ⟨P,hP⟩:∃P,wr.heap.size=P:=⟨_,rfl⟩;have HPS:=Lib.hid hP;rw [hP] at HP1 ⊢;clear hP x2 q0 q1 q2 q3;have y2:W1.cell? ⟨w.heap.size+1,2,none⟩=some (.slice ht.po t.procs.length ht.pc):=HX1.out.b.cell rfl;obtain ⟨g2,off2,ho2,hg2,hb⟩:=HX1.out.td.procs.cell hlt2;rw [ho2] at y2;obtain ⟨y,hy⟩:∃q,t.procs[j]=q:=⟨_,rfl⟩;rw [hy] at hb;obtain ⟨m2,c2,q3,hr2⟩:=hb.frame;have q0:=hb.c0;have q1:=hb.c1;have q2:=hb.c2;have HR2:=Lib.hid hr2;have HX2:=Lib.hid (HX1.out.below (ball (.cells #[.int .i64 y.type,.int .i64 y.loc,.int .i64 y.prio,.slice m2 y.frame.length c2] 39)));have HP2:=Lib.hid (HP1.out.below (ball (.cells #[.int .i64 y.type,.int .i64 y.loc,.int .i64 y.prio,.slice m2 y.frame.length c2] 39)));have HQ2:Hid (Bq W1 W1.heap.size #[.int .i64 y.type,.int .i64 y.loc,.int .i64 y.prio,.slice m2 y.frame.length c2] 39 (W1.alloc (.cells #[.int .i64 y.type,.int .i64 y.loc,.int .i64 y.prio,.slice m2 y.frame.length c2] 39))):=Lib.hid (Bq.new (Below.refl _ _) _ _);have hlB1:=HX1.out.leW;have HLB:=Lib.hid hlB1;clear hb ho2 hg2 hr2 HX1 HP1 hlB1;go_upto_region 15 with fail
     generalize W1.alloc (.cells #[.int .i64 y.type,.int .i64 y.loc,.int .i64 y.prio,.slice m2 y.frame.length c2] 39)=W2 at HX2 HP2 HQ2 ⊢;have HN1:Hid (Calls Tryz.prog 12 #[.slice m1 x.frame.length c1,.slice m2 y.frame.length c2] W2 fun e w'=>e= .returned (.bool (decide (x.frame=y.frame)))∧Below W2.heap.size W2 w'):=Lib.hid (numbers12H (B:=B) x.frame y.frame m1 m2 c1 c2 W2 HX2.out.leW (HR1.out _ (HPS.out ▸ HP2.out.bel)) (HR2.out.mono fun _ _ _ hg=>intAt.below (HQ2.out.bel.mono HLB.out) hg));obtain ⟨Q,hQ⟩:∃Q,W1.heap.size=Q:=⟨_,rfl⟩;rw [hQ] at HQ2 ⊢;clear hQ y2 q0 q1 q2 q3;have p3:W2.cell? ⟨P,3,none⟩=some (.slice m1 x.frame.length c1):=HP2.out.cell rfl;have r3:W2.cell? ⟨Q,3,none⟩=some (.slice m2 y.frame.length c2):=HQ2.out.cell rfl;obtain ⟨bb,hbb⟩:∃q,decide (x.frame=y.frame)=q:=⟨_,rfl⟩;have HBQ:=Lib.hid hbb;rw [hbb] at HN1;clear hbb;go_wp2_with fail;refine HN1.out.mono ?_;rintro e W3 ⟨rfl,hb3⟩;have HX3:=Lib.hid (HX2.out.below hb3);have HP3:=Lib.hid (HP2.out.below hb3);have HQ3:=Lib.hid (HQ2.out.below hb3);clear hb3 HN1 HX2 HP2 HQ2 p3 r3;have p0:W3.cell? ⟨P,0,none⟩=some (.int .i64 x.type):=HP3.out.cell rfl;have p1:W3.cell? ⟨P,1,none⟩=some (.int .i64 x.loc):=HP3.out.cell rfl;have p2:W3.cell? ⟨P,2,none⟩=some (.int .i64 x.prio):=HP3.out.cell rfl;have r0:W3.cell? ⟨Q,0,none⟩=some (.int .i64 y.type):=HQ3.out.cell rfl;have r1:W3.cell? ⟨Q,1,none⟩=some (.int .i64 y.loc):=HQ3.out.cell rfl;have r2:W3.cell? ⟨Q,2,none⟩=some (.int .i64 y.prio):=HQ3.out.cell rfl;have HN:Hid (x≠y→sameB s t=false):=Lib.hid fun h=>sameB_no fun e=>h (by rw [←hx,←hy];simp only [e])
     have HS2:Hid (x=y→∀k (hk:k < s.procs.length) (hk2:k < t.procs.length),k < j+1→s.procs[k]=t.procs[k]):=Lib.hid fun h k hk hk2 hkj=>by
      by_cases e:k=j
      · subst e;rw [hx,hy,h]
      · exact HJ.out k hk hk2 (by omega)
     clear hx hy HP3 HQ3;cases bb
     · have HZ:=Lib.hid (HN.out fun e=>of_decide_eq_false HBQ.out (by rw [e]));go_wp2_with fail;go_ret;exact ⟨retB HZ.out.symm,HX3.out.a.bel⟩
     by_cases z0:x.type=y.type;rotate_left
     · have d0: (x.type != y.type)=true:=by rw [bne_iff_ne];exact z0
       have HZ:=Lib.hid (HN.out fun e=>z0 (by rw [e]));clear z0;go_wp2_with fail;go_ret;exact ⟨retB HZ.out.symm,HX3.out.a.bel⟩
     have d0: (x.type != y.type)=false:=by rw [bne_eq_false_iff_eq];exact z0
     have H0:=Lib.hid z0;clear z0;by_cases z1:x.loc=y.loc;rotate_left
     · have d1: (x.loc != y.loc)=true:=by rw [bne_iff_ne];exact z1
       have HZ:=Lib.hid (HN.out fun e=>z1 (by rw [e]));clear z1;go_wp2_with fail;go_ret;exact ⟨retB HZ.out.symm,HX3.out.a.bel⟩
     have d1: (x.loc != y.loc)=false:=by rw [bne_eq_false_iff_eq];exact z1
     have H1':=Lib.hid z1;clear z1;by_cases z2:x.prio=y.prio;rotate_left
     · have d2: (x.prio != y.prio)=true:=by rw [bne_iff_ne];exact z2
       have HZ:=Lib.hid (HN.out fun e=>z2 (by rw [e]));clear z2;go_wp2_with fail;go_ret;exact ⟨retB HZ.out.symm,HX3.out.a.bel⟩
     have d2: (x.prio != y.prio)=false:=by rw [bne_eq_false_iff_eq];exact z2
     have HZ:=Lib.hid (HS2.out (proc_ext H0.out H1'.out z2 (of_decide_eq_true HBQ.out)));clear z2;go_wp2_with fail;go_roundw;case rel=>exact ⟨j+1,by go_num,by omega,HZ,HX3⟩
     case measure=>simp [intOf];omega
   · have hltj:¬ (j:Int) < s.procs.length:=by omega
     have HZ:Hid (sameB s t=true):=Lib.hid (sameB_yes (state_ext (of_decide_eq_true HG.out) HCH.out (list_eq_of H2.out fun k hk hk2=>HJ.out k hk hk2 (by omega)) H3.out H4.out H5.out));go_wp2_with fail;go_ret;exact ⟨retB HZ.out.symm,HX.out.a.bel⟩
end Go.Proofs.YtnoibjahliafpaaGreatDoor
