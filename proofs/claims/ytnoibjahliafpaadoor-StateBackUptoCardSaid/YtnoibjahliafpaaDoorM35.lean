/- A region that draws its order and whose callees may lay new blocks, but turn nothing that was there: one walk, in the order of the text. The class of worlds is 'nothing below has turned'; it is handed over as a family, so that the library's own steps see through it. -/
import Derived.WalkKit
import Derived.ProofKit
import Derived.Below
import Derived.Outline
import Derived.BigQuiet
import Derived.Deep.QuietTactic
import Derived.Test.YtnoibjahliafpaaDoorM22
import Derived.Test.YtnoibjahliafpaaDoorM02
set_option linter.unusedVariables false
set_option linter.unusedSimpArgs false
namespace Go.Proofs.YtnoibjahliafpaaDoor
open Go.ChangeShapes Go.WideShapes Go.ChangeAt Go.RowKit
theorem wp_region_kept {P:Program} {id:Nat} {Q:Exit→Act→World→Prop} {a:Act} {w:World} {l:List Oper} (hm:P.follows .mixedOrders=true) (hB:Region.lexB .any l.toArray=true)
 (h:∀ (ι:Type) (_:Nonempty ι) (f:ι→World),(∀n,Below w.heap.size w (f n))→ (∀n w',Below (f n).heap.size (f n) w'→∃m,w'=f m)→
   wpQuiet P l.toArray (fun w'=>∃n,w'=f n) (fun a'=>∀w',Below w.heap.size w w'→Q .normal a' w') l a): (Code.region id l.toArray true).wp P Q a w:=by
 refine wp_region_quiet (C:=fun w'=>∃n: { x // Below w.heap.size w x },w'=n.1) hm hB ⟨⟨_,(Below.refl _ _).drew⟩,rfl⟩ ?_;have h1:=h { x // Below w.heap.size w x } ⟨⟨w,Below.refl _ _⟩⟩ (fun n=>n.1) (fun n=>n.2) (fun n w' hw=>⟨⟨w',n.2.trans (hw.mono n.2.size)⟩,rfl⟩);have e: (fun a'=>∀w',Below w.heap.size w w'→Q .normal a' w')= (fun a'=>∀w',(∃n: { x // Below w.heap.size w x },w'=n.1)→Q .normal a' w'):=by
  funext a'
  apply propext;constructor
  · rintro g w' ⟨n,rfl⟩;exact g _ n.2
  · intro g w' hw;exact g w' ⟨⟨w',hw⟩,rfl⟩
 rw [e] at h1;simpa using h1
theorem kept_of {P:Program} {F:FuncId} {args:Array Value} {v:Value} {ι:Type} {f:ι→World} (hcl:∀n w',Below (f n).heap.size (f n) w'→∃m,w'=f m) (n:ι)
 (h:Calls P F args (f n) fun e w'=>e= .returned v∧Below (f n).heap.size (f n) w'):Calls P F args (f n) fun e w'=>e= .returned v∧∃m,w'=f m:=
 h.mono fun _ _ ⟨he,hb⟩=>⟨he,hcl n _ hb⟩
end Go.Proofs.YtnoibjahliafpaaDoor
namespace Go.Proofs.YtnoibjahliafpaaDoor
open Go.ChangeShapes Go.WideShapes Go.ChangeAt Go.RowKit
theorem list_eq_of {α:Type} {a b:List α} (hl:a.length=b.length) (h:∀j (hj:j < a.length) (hj2:j < b.length),a[j]=b[j]):a=b:=List.ext_getElem hl h
set_option maxRecDepth 100000 in
set_option maxHeartbeats 1000000 in
theorem numbers12H {B:Nat} (a b:List Int) (oa ob:Option Addr) (ca cb:Nat) (w:World) (hB:B≤w.heap.size) (ha:Row B oa 1 (intAt w) a) (hb:Row B ob 1 (intAt w) b):
 Calls Tryd.prog 17 #[.slice oa a.length ca,.slice ob b.length cb] w fun e w'=>e= .returned (.bool (decide (a=b)))∧Below w.heap.size w w':=by
 have HR:=Lib.hid (And.intro ha hb);have HBB:=Lib.hid hB;have la:=ha.1;have lb:=hb.1;have HB0:Hid (Below w.heap.size w w):=Lib.hid (Below.refl _ _);clear ha hb hB;by_cases hl:a.length=b.length;rotate_left
 · have d: ((a.length:Int) != (b.length:Int))=true:=by rw [bne_iff_ne];omega
   have HZ:Hid (decide (a=b)=false):=Lib.hid (decide_eq_false fun e=>hl (by rw [e]));clear hl;go_enter Tryd.func17,Tryd.ntmps17;go_wp2_with fail;go_ret;exact ⟨retB HZ.out.symm,HB0.out⟩
 have d: ((a.length:Int) != (b.length:Int))=false:=by rw [bne_eq_false_iff_eq];omega
 have HL:=Lib.hid hl;have hl1:a.length≤b.length:=by omega
 clear hl;go_enter Tryd.func17,Tryd.ntmps17;go_wp2_with fail;clear d
 go_loopw [5] (fun iv W=>∃i:Nat,iv= .int .i64 i∧i≤a.length∧Hid (∀j (hj:j < a.length) (hj2:j < b.length),j < i→a[j]=b[j])∧Hid (Below w.heap.size w W)) (fun iv _=>a.length - (intOf iv).toNat)
 case atStart=>exact ⟨0,rfl,by omega,Lib.hid fun j _ _ h=>by omega,HB0⟩
 case round=>
  clear HB0;obtain ⟨i,rfl,hi,HJ,HBW⟩:=hrel;have hi0: (0:Int)≤i:=by omega
  by_cases hlt:i < a.length
  · have hlti: (i:Int) < a.length:=by omega
    have hlt2:i < b.length:=by omega
    have hlti2: (i:Int) < b.length:=by omega
    obtain ⟨g1,off1,ho1,hg1,e1⟩:=(HR.out.1.mono fun _ _ _ hg=>intAt.below (HBW.out.mono HBB.out) hg).cell hlt;obtain ⟨g2,off2,ho2,hg2,e2⟩:=(HR.out.2.mono fun _ _ _ hg=>intAt.below (HBW.out.mono HBB.out) hg).cell hlt2;subst ho1 ho2;obtain ⟨x,hx⟩:∃q,a[i]=q:=⟨_,rfl⟩;obtain ⟨y,hy⟩:∃q,b[i]=q:=⟨_,rfl⟩;rw [hx] at e1;rw [hy] at e2;unfold intAt at e1 e2;rw [Nat.mul_one] at e1 e2;have HB3:Hid (∀n,Below w.heap.size w (wr.drewN n)):=Lib.hid fun n=>HBW.out.trans (bdrew (Below.refl _ _) n)
    have HS:Hid (x=y→∀j (hj:j < a.length) (hj2:j < b.length),j < i+1→a[j]=b[j]):=Lib.hid fun h j hj hj2 hji=>by
     by_cases e:j=i
     · subst e;rw [hx,hy,h]
     · exact HJ.out j hj hj2 (by omega)
    have HN:Hid (x≠y→decide (a=b)=false):=Lib.hid fun h=>decide_eq_false fun e=>h (by rw [←hx,←hy];simp only [e])
    clear hx hy hg1 hg2;by_cases z:x=y
    · have d: (x != y)=false:=by rw [bne_eq_false_iff_eq];exact z
      have HZ:=Lib.hid (HS.out z);clear z;go_wp2_with fail;go_quiet (fail);go_wp2_with fail;go_roundw;case rel=>exact ⟨i+1,by go_num,by omega,HZ,Lib.hid (HB3.out _)⟩
      case measure=>simp [intOf];omega
    · have d: (x != y)=true:=by rw [bne_iff_ne];exact z
      have HZ:=Lib.hid (HN.out z);clear z;go_wp2_with fail;go_quiet (fail);go_wp2_with fail;go_ret;exact ⟨retB HZ.out.symm,HB3.out _⟩
  · have hlti:¬ (i:Int) < a.length:=by omega
    have HZ:Hid (decide (a=b)=true):=Lib.hid (decide_eq_true (list_eq_of HL.out fun j hj hj2=>HJ.out j hj hj2 (by omega)));go_wp2_with fail;go_ret;exact ⟨retB HZ.out.symm,HBW.out⟩
def chanEqB (a b:ChanD):Bool:=decide (a.shape=b.shape∧a.queue=b.queue)
set_option maxRecDepth 100000 in
set_option maxHeartbeats 2000000 in
theorem sameChan12H {B:Nat} (a b:ChanD) (oa ob:Option Addr) (ca cb:Nat) (w:World) (hB:B≤w.heap.size) (ha:Row B oa 1 (msgAt B w) a.queue) (hb:Row B ob 1 (msgAt B w) b.queue):
 Calls Tryd.prog 18 #[.agg #[.int .i64 a.shape,.slice oa a.queue.length ca],.agg #[.int .i64 b.shape,.slice ob b.queue.length cb]] w fun e w'=>e= .returned (.bool (chanEqB a b))∧Below w.heap.size w w':=by
 have HR:=Lib.hid (And.intro ha hb);have HBB:=Lib.hid hB;have la:=ha.1;have lb:=hb.1;obtain ⟨CA,hCA⟩:∃c:Array Value,c= #[.int .i64 a.shape,.slice oa a.queue.length ca]:=⟨_,rfl⟩;obtain ⟨CB,hCB⟩:∃c:Array Value,c= #[.int .i64 b.shape,.slice ob b.queue.length cb]:=⟨_,rfl⟩;have HX:Hid (Bq w w.heap.size #[.int .i64 a.shape,.slice oa a.queue.length ca] 61 ((w.alloc (.cells #[.int .i64 a.shape,.slice oa a.queue.length ca] 61)).alloc (.cells #[.int .i64 b.shape,.slice ob b.queue.length cb] 61))∧Bq w (w.heap.size+1) #[.int .i64 b.shape,.slice ob b.queue.length cb] 61 ((w.alloc (.cells #[.int .i64 a.shape,.slice oa a.queue.length ca] 61)).alloc (.cells #[.int .i64 b.shape,.slice ob b.queue.length cb] 61))):=Lib.hid ⟨(Bq.new (Below.refl _ _) _ _).below (ball _),new_at (by simp),(Bq.new (Below.refl _ _) _ _).bel.alloc (by simp) _⟩;clear ha hb hB;go_enter Tryd.func18,Tryd.ntmps18;go_upto_region 1 with fail
 generalize (w.alloc (.cells #[.int .i64 a.shape,.slice oa a.queue.length ca] 61)).alloc (.cells #[.int .i64 b.shape,.slice ob b.queue.length cb] 61)=W0 at HX ⊢;clear hCA hCB;have x0:W0.cell? ⟨w.heap.size,0,none⟩=some (.int .i64 a.shape):=HX.out.1.cell rfl;have x1:W0.cell? ⟨w.heap.size,1,none⟩=some (.slice oa a.queue.length ca):=HX.out.1.cell rfl;have y0:W0.cell? ⟨w.heap.size+1,0,none⟩=some (.int .i64 b.shape):=HX.out.2.cell rfl;have y1:W0.cell? ⟨w.heap.size+1,1,none⟩=some (.slice ob b.queue.length cb):=HX.out.2.cell rfl;by_cases hs:a.shape=b.shape;rotate_left
 · have d: (a.shape != b.shape)=true:=by rw [bne_iff_ne];exact hs
   have HZ:Hid (chanEqB a b=false):=Lib.hid (decide_eq_false fun e=>hs e.1);clear hs;go_wp2_with fail;go_ret;exact ⟨retB HZ.out.symm,HX.out.1.bel⟩
 have d: (a.shape != b.shape)=false:=by rw [bne_eq_false_iff_eq];exact hs
 have HS:=Lib.hid hs;clear hs;by_cases hl:a.queue.length=b.queue.length;rotate_left
 · have d2: ((a.queue.length:Int) != (b.queue.length:Int))=true:=by rw [bne_iff_ne];omega
   have HZ:Hid (chanEqB a b=false):=Lib.hid (decide_eq_false fun e=>hl (by rw [e.2]));clear hl;go_wp2_with fail;go_ret;exact ⟨retB HZ.out.symm,HX.out.1.bel⟩
 have d2: ((a.queue.length:Int) != (b.queue.length:Int))=false:=by rw [bne_eq_false_iff_eq];omega
 have HL:=Lib.hid hl;have hl1:a.queue.length≤b.queue.length:=by omega
 clear hl;go_wp2_with fail;clear d d2 x0 x1 y0 y1
 go_loopw [5] (fun iv W=>∃i:Nat,iv= .int .i64 i∧i≤a.queue.length∧Hid (∀j (hj:j < a.queue.length) (hj2:j < b.queue.length),j < i→a.queue[j]=b.queue[j])∧Hid (Bq w w.heap.size #[.int .i64 a.shape,.slice oa a.queue.length ca] 61 W∧Bq w (w.heap.size+1) #[.int .i64 b.shape,.slice ob b.queue.length cb] 61 W)) (fun iv _=>a.queue.length - (intOf iv).toNat)
 case atStart=>exact ⟨0,rfl,by omega,Lib.hid fun j _ _ h=>by omega,HX⟩
 case round=>
  clear HX;obtain ⟨i,rfl,hi,HJ,HX⟩:=hrel;have hi0: (0:Int)≤i:=by omega
  have x1:wr.cell? ⟨w.heap.size,1,none⟩=some (.slice oa a.queue.length ca):=HX.out.1.cell rfl;by_cases hlt:i < a.queue.length
  · have hlti: (i:Int) < a.queue.length:=by omega
    have hlt2:i < b.queue.length:=by omega
    have hlti2: (i:Int) < b.queue.length:=by omega
    have HQ1:Hid (∀W,Below wr.heap.size wr W→Row B oa 1 (msgAt B W) a.queue):=Lib.hid fun W hb=>HR.out.1.mono fun _ _ _ hg=>msgAt.below ((HX.out.1.bel.trans (hb.mono HX.out.1.bel.size)).mono HBB.out) hg
    have HQ2:Hid (∀W,Below wr.heap.size wr W→Row B ob 1 (msgAt B W) b.queue):=Lib.hid fun W hb=>HR.out.2.mono fun _ _ _ hg=>msgAt.below ((HX.out.1.bel.trans (hb.mono HX.out.1.bel.size)).mono HBB.out) hg
    obtain ⟨g1,off1,ho1,hg1,m1,c1,e1,hr1⟩:=(HQ1.out wr (Below.refl _ _)).cell hlt;obtain ⟨g2,off2,ho2,hg2,m2,c2,e2,hr2⟩:=(HQ2.out wr (Below.refl _ _)).cell hlt2;obtain ⟨x,hx⟩:∃q,a.queue[i]=q:=⟨_,rfl⟩;obtain ⟨y,hy⟩:∃q,b.queue[i]=q:=⟨_,rfl⟩;rw [hx] at e1 hr1;rw [hy] at e2 hr2;rw [Nat.mul_one] at e1 e2;have hBW:B≤wr.heap.size:=Nat.le_trans HBB.out HX.out.1.bel.size;have HC:Hid (∀W,Below wr.heap.size wr W→Calls Tryd.prog 17 #[.slice m1 x.length c1,.slice m2 y.length c2] W fun e w'=>e= .returned (.bool (decide (x=y)))∧Below W.heap.size W w'):=Lib.hid fun W hb=>numbers12H (B:=B) x y m1 m2 c1 c2 W (Nat.le_trans hBW hb.size) (hr1.mono fun _ _ _ hg=>intAt.below (hb.mono hBW) hg) (hr2.mono fun _ _ _ hg=>intAt.below (hb.mono hBW) hg)
    have HS2:Hid (x=y→∀j (hj:j < a.queue.length) (hj2:j < b.queue.length),j < i+1→a.queue[j]=b.queue[j]):=Lib.hid fun h j hj hj2 hji=>by
     by_cases e:j=i
     · subst e;rw [hx,hy,h]
     · exact HJ.out j hj hj2 (by omega)
    have HN:Hid (x≠y→chanEqB a b=false):=Lib.hid fun h=>decide_eq_false fun e=>h (by rw [←hx,←hy];simp only [e.2])
    have HW:Hid (∀W,Below wr.heap.size wr W→W.cell? ⟨w.heap.size,1,none⟩=some (.slice oa a.queue.length ca)∧W.cell? ⟨w.heap.size+1,1,none⟩=some (.slice ob b.queue.length cb)∧W.cell? ⟨g1,off1+i,none⟩=some (.slice m1 x.length c1)∧W.cell? ⟨g2,off2+i,none⟩=some (.slice m2 y.length c2)):=Lib.hid fun W hb=>⟨(HX.out.1.below hb).cell rfl,(HX.out.2.below hb).cell rfl,(hb.cell (p:=⟨g1,off1+i,none⟩) (Nat.lt_of_lt_of_le hg1 hBW)).trans e1,(hb.cell (p:=⟨g2,off2+i,none⟩) (Nat.lt_of_lt_of_le hg2 hBW)).trans e2⟩
    clear hx hy hr1 hr2 hBW;obtain ⟨bb,hbb⟩:∃q,decide (x=y)=q:=⟨_,rfl⟩;have HBQ:=Lib.hid hbb;rw [hbb] at HC;clear hbb;go_upto_region 6 with fail
    refine wp_region_kept (by kernel_rfl) (by kernel_rfl) (fun ι hne f hf hcl=> ?_);have z1:∀n,(f n).cell? ⟨w.heap.size,1,none⟩=some (.slice (some ⟨g1,off1,none⟩) a.queue.length ca):=fun n=>by rw [←ho1];exact (HW.out _ (hf n)).1
    have z2:∀n,(f n).cell? ⟨w.heap.size+1,1,none⟩=some (.slice (some ⟨g2,off2,none⟩) b.queue.length cb):=fun n=>by rw [←ho2];exact (HW.out _ (hf n)).2.1
    have z3:∀n,(f n).cell? ⟨g1,off1+i,none⟩=some (.slice m1 x.length c1):=fun n=>(HW.out _ (hf n)).2.2.1
    have z4:∀n,(f n).cell? ⟨g2,off2+i,none⟩=some (.slice m2 y.length c2):=fun n=>(HW.out _ (hf n)).2.2.2
    have HA:=Lib.hid (fun n=>HC.out _ (hf n));have HF:=Lib.hid hcl;clear hcl hf x1 e1 e2 HC ho1 ho2 hg1 hg2
    repeat (go_big_quiet_step ((go_at_call 17;with_reducible exact kept_of HF.out _ (HA.out _))))
    refine wpQuiet_nil ?_;intro W1 hb1;have HX1:Hid (Bq w w.heap.size #[.int .i64 a.shape,.slice oa a.queue.length ca] 61 W1∧Bq w (w.heap.size+1) #[.int .i64 b.shape,.slice ob b.queue.length cb] 61 W1):=Lib.hid ⟨HX.out.1.below hb1,HX.out.2.below hb1⟩;clear hb1 z1 z2 z3 z4 HX HW HQ1 HQ2;cases bb
    · have HZ:=Lib.hid (HN.out (by have:=HBQ.out;rw [decide_eq_false_iff_not] at this;exact this));go_wp2_with fail;go_ret;exact ⟨retB HZ.out.symm,HX1.out.1.bel⟩
    · have HZ:=Lib.hid (HS2.out (by have:=HBQ.out;rw [decide_eq_true_eq] at this;exact this));go_wp2_with fail;go_roundw;case rel=>exact ⟨i+1,by go_num,by omega,HZ,HX1⟩
      case measure=>simp [intOf];omega
  · have hlti:¬ (i:Int) < a.queue.length:=by omega
    have HZ:Hid (chanEqB a b=true):=Lib.hid (decide_eq_true ⟨HS.out,list_eq_of HL.out fun j hj hj2=>HJ.out j hj hj2 (by omega)⟩);go_wp2_with fail;go_ret;exact ⟨retB HZ.out.symm,HX.out.1.bel⟩
end Go.Proofs.YtnoibjahliafpaaDoor
