/- Equal rows of numbers, and of messages. -/
import Derived.Test.YtnoibjahliafpaaDoorM36
import Derived.Laws.EntriesVeiled
set_option linter.unusedVariables false
set_option linter.unusedSimpArgs false
namespace Go.Proofs.YtnoibjahliafpaaDoor
open Go.ChangeShapes Go.WideShapes Go.ChangeAt Go.RowKit
set_option maxRecDepth 100000 in
set_option maxHeartbeats 1000000 in
theorem eqM35 {B:Nat} (a b:List Int) (oa ob:Option Addr) (ca cb:Nat) (w:World) (hB:B≤w.heap.size) (ha:Row B oa 1 (intAt w) a) (hb:Row B ob 1 (intAt w) b):
 Calls Tryd.prog 22 #[.slice oa a.length ca,.slice ob b.length cb] w fun e w'=>e= .returned (.bool (decide (a=b)))∧Below w.heap.size w w':=by
 have HR:=Lib.hid (And.intro ha hb);have HBB:=Lib.hid hB;have la:=ha.1;have lb:=hb.1;have HB0:Hid (Below w.heap.size w w):=Lib.hid (Below.refl _ _);clear ha hb hB;by_cases hl:a.length=b.length;rotate_left
 · have d: ((a.length:Int) != (b.length:Int))=true:=by rw [bne_iff_ne];omega
   have HZ:Hid (decide (a=b)=false):=Lib.hid (decide_eq_false fun e=>hl (by rw [e]));clear hl;go_enter Tryd.func22,Tryd.ntmps22;go_wp2_with fail;go_ret;exact ⟨retB HZ.out.symm,HB0.out⟩
 have d: ((a.length:Int) != (b.length:Int))=false:=by rw [bne_eq_false_iff_eq];omega
 have HL:=Lib.hid hl;have hl1:a.length≤b.length:=by omega
 clear hl;go_enter Tryd.func22,Tryd.ntmps22;go_wp2_with fail;clear d
 go_loopw [13] (fun iv W=>∃i:Nat,iv= .int .i64 i∧i≤a.length∧Hid (∀j (hj:j < a.length) (hj2:j < b.length),j < i→a[j]=b[j])∧Hid (Below w.heap.size w W)) (fun iv _=>a.length - (intOf iv).toNat)
 case atStart=>exact ⟨0,rfl,by omega,Lib.hid fun j _ _ h=>by omega,HB0⟩
 case round=>
  clear HB0;obtain ⟨i,rfl,hi,HJ,HBW⟩:=hrel;have hi0: (0:Int)≤i:=by omega
  by_cases hlt:i < a.length
  · have hlti: (i:Int) < a.length:=by omega
    have hlt2:i < b.length:=by omega
    have hlti2: (i:Int) < b.length:=by omega
    obtain ⟨g1,off1,ho1,hg1,e1⟩:=(HR.out.1.mono fun _ _ _ hg=>intAt.below (HBW.out.mono HBB.out) hg).cell hlt;obtain ⟨g2,off2,ho2,hg2,e2⟩:=(HR.out.2.mono fun _ _ _ hg=>intAt.below (HBW.out.mono HBB.out) hg).cell hlt2;subst ho1 ho2;obtain ⟨x,hx⟩:∃q,a[i]=q:=⟨_,rfl⟩;obtain ⟨y,hy⟩:∃q,b[i]=q:=⟨_,rfl⟩;rw [hx] at e1;rw [hy] at e2;unfold intAt at e1 e2;rw [Nat.mul_one] at e1 e2;have HB3:Hid (∀n,Below w.heap.size w (wr.drewN n)):=Lib.hid fun n=>HBW.out.trans (bdrew (Below.refl _ _) n)
    have HS:Hid (x=y→∀j (hj:j < a.length) (hj2:j < b.length),j < i+1→a[j]=b[j]):=Lib.hid fun h j hj hj2 hji=>by
     by_cases e:j=i
     · subst e;rw [hx,hy,h]
     · exact HJ.out j hj hj2 (by omega)
    have HN:Hid (x≠y→decide (a=b)=false):=Lib.hid fun h=>decide_eq_false fun e=>h (by rw [←hx,←hy];simp only [e])
    clear hx hy hg1 hg2;by_cases z:x=y
    · have d: (x != y)=false:=by rw [bne_eq_false_iff_eq];exact z
      have HZ:=Lib.hid (HS.out z);clear z;go_wp2_with fail;go_quiet (fail);go_wp2_with fail;go_roundw;case rel=>exact ⟨i+1,by go_num,by omega,HZ,Lib.hid (HB3.out _)⟩
      case measure=>simp [intOf];omega
    · have d: (x != y)=true:=by rw [bne_iff_ne];exact z
      have HZ:=Lib.hid (HN.out z);clear z;go_wp2_with fail;go_quiet (fail);go_wp2_with fail;go_ret;exact ⟨retB HZ.out.symm,HB3.out _⟩
  · have hlti:¬ (i:Int) < a.length:=by omega
    have HZ:Hid (decide (a=b)=true):=Lib.hid (decide_eq_true (list_eq_of HL.out fun j hj hj2=>HJ.out j hj hj2 (by omega)));go_wp2_with fail;go_ret;exact ⟨retB HZ.out.symm,HBW.out⟩
set_option maxRecDepth 100000 in
set_option maxHeartbeats 1000000 in
theorem eqN39 {B:Nat} (a b:List Int) (oa ob:Option Addr) (ca cb:Nat) (w:World) (hB:B≤w.heap.size) (ha:Row B oa 1 (intAt w) a) (hb:Row B ob 1 (intAt w) b):
 Calls Tryd.prog 26 #[.slice oa a.length ca,.slice ob b.length cb] w fun e w'=>e= .returned (.bool (decide (a=b)))∧Below w.heap.size w w':=by
 have HR:=Lib.hid (And.intro ha hb);have HBB:=Lib.hid hB;have la:=ha.1;have lb:=hb.1;have HB0:Hid (Below w.heap.size w w):=Lib.hid (Below.refl _ _);clear ha hb hB;by_cases hl:a.length=b.length;rotate_left
 · have d: ((a.length:Int) != (b.length:Int))=true:=by rw [bne_iff_ne];omega
   have HZ:Hid (decide (a=b)=false):=Lib.hid (decide_eq_false fun e=>hl (by rw [e]));clear hl;go_enter Tryd.func26,Tryd.ntmps26;go_wp2_with fail;go_ret;exact ⟨retB HZ.out.symm,HB0.out⟩
 have d: ((a.length:Int) != (b.length:Int))=false:=by rw [bne_eq_false_iff_eq];omega
 have HL:=Lib.hid hl;have hl1:a.length≤b.length:=by omega
 clear hl;go_enter Tryd.func26,Tryd.ntmps26;go_wp2_with fail;clear d
 go_loopw [13] (fun iv W=>∃i:Nat,iv= .int .i64 i∧i≤a.length∧Hid (∀j (hj:j < a.length) (hj2:j < b.length),j < i→a[j]=b[j])∧Hid (Below w.heap.size w W)) (fun iv _=>a.length - (intOf iv).toNat)
 case atStart=>exact ⟨0,rfl,by omega,Lib.hid fun j _ _ h=>by omega,HB0⟩
 case round=>
  clear HB0;obtain ⟨i,rfl,hi,HJ,HBW⟩:=hrel;have hi0: (0:Int)≤i:=by omega
  by_cases hlt:i < a.length
  · have hlti: (i:Int) < a.length:=by omega
    have hlt2:i < b.length:=by omega
    have hlti2: (i:Int) < b.length:=by omega
    obtain ⟨g1,off1,ho1,hg1,e1⟩:=(HR.out.1.mono fun _ _ _ hg=>intAt.below (HBW.out.mono HBB.out) hg).cell hlt;obtain ⟨g2,off2,ho2,hg2,e2⟩:=(HR.out.2.mono fun _ _ _ hg=>intAt.below (HBW.out.mono HBB.out) hg).cell hlt2;subst ho1 ho2;obtain ⟨x,hx⟩:∃q,a[i]=q:=⟨_,rfl⟩;obtain ⟨y,hy⟩:∃q,b[i]=q:=⟨_,rfl⟩;rw [hx] at e1;rw [hy] at e2;unfold intAt at e1 e2;rw [Nat.mul_one] at e1 e2;have HB3:Hid (∀n,Below w.heap.size w (wr.drewN n)):=Lib.hid fun n=>HBW.out.trans (bdrew (Below.refl _ _) n)
    have HS:Hid (x=y→∀j (hj:j < a.length) (hj2:j < b.length),j < i+1→a[j]=b[j]):=Lib.hid fun h j hj hj2 hji=>by
     by_cases e:j=i
     · subst e;rw [hx,hy,h]
     · exact HJ.out j hj hj2 (by omega)
    have HN:Hid (x≠y→decide (a=b)=false):=Lib.hid fun h=>decide_eq_false fun e=>h (by rw [←hx,←hy];simp only [e])
    clear hx hy hg1 hg2;by_cases z:x=y
    · have d: (x != y)=false:=by rw [bne_eq_false_iff_eq];exact z
      have HZ:=Lib.hid (HS.out z);clear z;go_wp2_with fail;go_quiet (fail);go_wp2_with fail;go_roundw;case rel=>exact ⟨i+1,by go_num,by omega,HZ,Lib.hid (HB3.out _)⟩
      case measure=>simp [intOf];omega
    · have d: (x != y)=true:=by rw [bne_iff_ne];exact z
      have HZ:=Lib.hid (HN.out z);clear z;go_wp2_with fail;go_quiet (fail);go_wp2_with fail;go_ret;exact ⟨retB HZ.out.symm,HB3.out _⟩
  · have hlti:¬ (i:Int) < a.length:=by omega
    have HZ:Hid (decide (a=b)=true):=Lib.hid (decide_eq_true (list_eq_of HL.out fun j hj hj2=>HJ.out j hj hj2 (by omega)));go_wp2_with fail;go_ret;exact ⟨retB HZ.out.symm,HBW.out⟩
set_option maxRecDepth 100000 in
theorem cl34 {B:Nat} (a b:List Int) (oa ob:Option Addr) (ca cb:Nat) (w:World) (hB:B≤w.heap.size) (ha:Row B oa 1 (intAt w) a) (hb:Row B ob 1 (intAt w) b):
 Calls Tryd.prog 21 #[.slice oa a.length ca,.slice ob b.length cb] w fun e w'=>e= .returned (.bool (decide (a=b)))∧Below w.heap.size w w':=by
 have HC:=Lib.hid (eqM35 a b oa ob ca cb w hB ha hb);clear ha hb hB;go_enter Tryd.func21,Tryd.ntmps21;go_wp2_with fail;refine HC.out.mono ?_;rintro e W1 ⟨rfl,hb1⟩;have HB:=Lib.hid hb1;clear hb1;go_wp2_with fail;go_ret;exact ⟨rfl,HB.out⟩
def fn34:Value:= .func (.func 21) #[] #[]
set_option maxRecDepth 100000 in
set_option maxHeartbeats 1000000 in
theorem eqQ37 {B:Nat} (a b:List (List Int)) (oa ob:Option Addr) (ca cb:Nat) (w:World) (hB:B≤w.heap.size) (ha:Row B oa 1 (msgAt B w) a) (hb:Row B ob 1 (msgAt B w) b):
 Calls Tryd.prog 24 #[.slice oa a.length ca,.slice ob b.length cb,fn34] w fun e w'=>e= .returned (.bool (decide (a=b)))∧Below w.heap.size w w':=by
 have HR:=Lib.hid (And.intro ha hb);have HBB:=Lib.hid hB;have la:=ha.1;have lb:=hb.1;have HB0:Hid (Below w.heap.size w w):=Lib.hid (Below.refl _ _);clear ha hb hB;unfold fn34;by_cases hl:a.length=b.length;rotate_left
 · have d: ((a.length:Int) != (b.length:Int))=true:=by rw [bne_iff_ne];omega
   have HZ:Hid (decide (a=b)=false):=Lib.hid (decide_eq_false fun e=>hl (by rw [e]));clear hl;go_enter Tryd.func24,Tryd.ntmps24;go_wp2_with fail;go_ret;exact ⟨retB HZ.out.symm,HB0.out⟩
 have d: ((a.length:Int) != (b.length:Int))=false:=by rw [bne_eq_false_iff_eq];omega
 have HL:=Lib.hid hl;have hl1:a.length≤b.length:=by omega
 clear hl;go_enter Tryd.func24,Tryd.ntmps24;go_wp2_with fail;clear d
 go_loopw [17] (fun iv W=>∃i:Nat,iv= .int .i64 i∧i≤a.length∧Hid (∀j (hj:j < a.length) (hj2:j < b.length),j < i→a[j]=b[j])∧Hid (Below w.heap.size w W)) (fun iv _=>a.length - (intOf iv).toNat)
 case atStart=>exact ⟨0,rfl,by omega,Lib.hid fun j _ _ h=>by omega,HB0⟩
 case round=>
  clear HB0;obtain ⟨i,rfl,hi,HJ,HBW⟩:=hrel;have hi0: (0:Int)≤i:=by omega
  by_cases hlt:i < a.length
  · have hlti: (i:Int) < a.length:=by omega
    have hlt2:i < b.length:=by omega
    have hlti2: (i:Int) < b.length:=by omega
    obtain ⟨g1,off1,ho1,hg1,m1,c1,e1,hr1⟩:=(HR.out.1.mono fun _ _ _ hg=>msgAt.below (HBW.out.mono HBB.out) hg).cell hlt;obtain ⟨g2,off2,ho2,hg2,m2,c2,e2,hr2⟩:=(HR.out.2.mono fun _ _ _ hg=>msgAt.below (HBW.out.mono HBB.out) hg).cell hlt2;subst ho1 ho2;obtain ⟨x,hx⟩:∃q,a[i]=q:=⟨_,rfl⟩;obtain ⟨y,hy⟩:∃q,b[i]=q:=⟨_,rfl⟩;rw [hx] at e1 hr1;rw [hy] at e2 hr2;rw [Nat.mul_one] at e1 e2;have HC:=Lib.hid (cl34 (B:=B) x y m1 m2 c1 c2 wr (Nat.le_trans HBB.out HBW.out.size) hr1 hr2);have HS:Hid (x=y→∀j (hj:j < a.length) (hj2:j < b.length),j < i+1→a[j]=b[j]):=Lib.hid fun h j hj hj2 hji=>by
     by_cases e:j=i
     · subst e;rw [hx,hy,h]
     · exact HJ.out j hj hj2 (by omega)
    have HN:Hid (x≠y→decide (a=b)=false):=Lib.hid fun h=>decide_eq_false fun e=>h (by rw [←hx,←hy];simp only [e])
    obtain ⟨bb,hbb⟩:∃q,decide (x=y)=q:=⟨_,rfl⟩;have HBQ:=Lib.hid hbb;rw [hbb] at HC;clear hx hy hg1 hg2 hr1 hr2 hbb;go_wp2_with fail;refine HC.out.mono ?_;rintro e W1 ⟨rfl,hb1⟩;have HB1:Hid (Below w.heap.size w W1):=Lib.hid (HBW.out.trans (hb1.mono HBW.out.size));clear hb1 e1 e2;cases bb
    · have HZ:=Lib.hid (HN.out (of_decide_eq_false HBQ.out));go_wp2_with fail;go_ret;exact ⟨retB HZ.out.symm,HB1.out⟩
    · have HZ:=Lib.hid (HS.out (of_decide_eq_true HBQ.out));go_wp2_with fail;go_roundw;case rel=>exact ⟨i+1,by go_num,by omega,HZ,HB1⟩
      case measure=>simp [intOf];omega
  · have hlti:¬ (i:Int) < a.length:=by omega
    have HZ:Hid (decide (a=b)=true):=Lib.hid (decide_eq_true (list_eq_of HL.out fun j hj hj2=>HJ.out j hj hj2 (by omega)));go_wp2_with fail;go_ret;exact ⟨retB HZ.out.symm,HBW.out⟩
def FBx (w:World) (p:Nat):Prop:=w.heap[p]? =some (.cells #[fn34] 76 (0,0))
set_option maxRecDepth 100000 in
set_option maxHeartbeats 1000000 in
theorem cl36 {B:Nat} (a b:ChanD) (oa ob:Option Addr) (ca cb p:Nat) (w:World) (hB:B≤w.heap.size) (hp:FBx w p) (ha:Row B oa 1 (msgAt B w) a.queue) (hb:Row B ob 1 (msgAt B w) b.queue):
 Calls Tryd.prog 23 #[.agg #[.int .i64 a.shape,.slice oa a.queue.length ca],.agg #[.int .i64 b.shape,.slice ob b.queue.length cb],.pointer (some ⟨p,0,none⟩)] w fun e w'=>e= .returned (.bool (chanEqB a b))∧Below w.heap.size w w':=by
 obtain ⟨W0,hW0⟩:∃W,W= (w.alloc (.cells #[.int .i64 a.shape,.slice oa a.queue.length ca] 61)).alloc (.cells #[.int .i64 b.shape,.slice ob b.queue.length cb] 61):=⟨_,rfl⟩;have HB0:Hid (Below w.heap.size w W0):=Lib.hid (by rw [hW0];exact ((Below.refl _ _).alloc (Nat.le_refl _) _).alloc (by simp) _);have HX:Hid (Bq w w.heap.size #[.int .i64 a.shape,.slice oa a.queue.length ca] 61 W0∧Bq w (w.heap.size+1) #[.int .i64 b.shape,.slice ob b.queue.length cb] 61 W0):=Lib.hid (by rw [hW0];exact ⟨(Bq.new (Below.refl _ _) _ _).below (ball _),new_at (by simp),(Bq.new (Below.refl _ _) _ _).bel.alloc (by simp) _⟩);have HC:=Lib.hid (eqQ37 (B:=B) a.queue b.queue oa ob ca cb W0 (Nat.le_trans hB HB0.out.size) (ha.mono fun _ _ _ hg=>msgAt.below (HB0.out.mono hB) hg) (hb.mono fun _ _ _ hg=>msgAt.below (HB0.out.mono hB) hg));have z1:W0.cell? ⟨p,0,none⟩=some fn34:=(HB0.out.cell (p:=⟨p,0,none⟩) (lt_of_block hp)).trans ((cell_of_row _ _ 0 _ _ _ hp).trans rfl);have x0:W0.cell? ⟨w.heap.size,0,none⟩=some (.int .i64 a.shape):=HX.out.1.cell rfl;have x1:W0.cell? ⟨w.heap.size,1,none⟩=some (.slice oa a.queue.length ca):=HX.out.1.cell rfl;have y0:W0.cell? ⟨w.heap.size+1,0,none⟩=some (.int .i64 b.shape):=HX.out.2.cell rfl;have y1:W0.cell? ⟨w.heap.size+1,1,none⟩=some (.slice ob b.queue.length cb):=HX.out.2.cell rfl;clear ha hb hB hp HX;unfold fn34 at z1 HC;go_enter Tryd.func23,Tryd.ntmps23;go_upto_region 1 with fail
 rw [←hW0];clear hW0;by_cases hs:a.shape=b.shape;rotate_left
 · have d: (a.shape == b.shape)=false:=by rw [beq_eq_false_iff_ne];exact hs
   have HZ:Hid (chanEqB a b=false):=Lib.hid (decide_eq_false fun e=>hs e.1);clear hs;go_wp2_with fail;go_ret;exact ⟨retB HZ.out.symm,HB0.out⟩
 have d: (a.shape == b.shape)=true:=by rw [beq_iff_eq];exact hs
 have HZ:Hid (decide (a.queue=b.queue)=chanEqB a b):=Lib.hid (by unfold chanEqB;simp [hs]);clear hs;go_wp2_with fail;refine HC.out.mono ?_;rintro e W1 ⟨rfl,hb1⟩;have HB1:Hid (Below w.heap.size w W1):=Lib.hid (HB0.out.trans (hb1.mono HB0.out.size));clear hb1 x0 x1 y0 y1 z1;go_wp2_with fail;go_ret;exact ⟨retB HZ.out,HB1.out⟩
def procEqB (a b:ProcessD):Bool:=decide (a.type=b.type∧a.loc=b.loc∧a.prio=b.prio∧a.frame=b.frame)
set_option maxRecDepth 100000 in
set_option maxHeartbeats 1000000 in
theorem cl38 {B:Nat} (a b:ProcessD) (oa ob:Option Addr) (ca cb:Nat) (w:World) (hB:B≤w.heap.size) (ha:Row B oa 1 (intAt w) a.frame) (hb:Row B ob 1 (intAt w) b.frame):
 Calls Tryd.prog 25 #[.agg #[.int .i64 a.type,.int .i64 a.loc,.int .i64 a.prio,.slice oa a.frame.length ca],.agg #[.int .i64 b.type,.int .i64 b.loc,.int .i64 b.prio,.slice ob b.frame.length cb]] w fun e w'=>e= .returned (.bool (procEqB a b))∧Below w.heap.size w w':=by
 obtain ⟨W0,hW0⟩:∃W,W= (w.alloc (.cells #[.int .i64 a.type,.int .i64 a.loc,.int .i64 a.prio,.slice oa a.frame.length ca] 63)).alloc (.cells #[.int .i64 b.type,.int .i64 b.loc,.int .i64 b.prio,.slice ob b.frame.length cb] 63):=⟨_,rfl⟩;have HB0:Hid (Below w.heap.size w W0):=Lib.hid (by rw [hW0];exact ((Below.refl _ _).alloc (Nat.le_refl _) _).alloc (by simp) _);have HX:Hid (Bq w w.heap.size #[.int .i64 a.type,.int .i64 a.loc,.int .i64 a.prio,.slice oa a.frame.length ca] 63 W0∧Bq w (w.heap.size+1) #[.int .i64 b.type,.int .i64 b.loc,.int .i64 b.prio,.slice ob b.frame.length cb] 63 W0):=Lib.hid (by rw [hW0];exact ⟨(Bq.new (Below.refl _ _) _ _).below (ball _),new_at (by simp),(Bq.new (Below.refl _ _) _ _).bel.alloc (by simp) _⟩);have HC:=Lib.hid (eqN39 (B:=B) a.frame b.frame oa ob ca cb W0 (Nat.le_trans hB HB0.out.size) (ha.mono fun _ _ _ hg=>intAt.below (HB0.out.mono hB) hg) (hb.mono fun _ _ _ hg=>intAt.below (HB0.out.mono hB) hg));have x0:W0.cell? ⟨w.heap.size,0,none⟩=some (.int .i64 a.type):=HX.out.1.cell rfl;have x1:W0.cell? ⟨w.heap.size,1,none⟩=some (.int .i64 a.loc):=HX.out.1.cell rfl;have x2:W0.cell? ⟨w.heap.size,2,none⟩=some (.int .i64 a.prio):=HX.out.1.cell rfl;have x3:W0.cell? ⟨w.heap.size,3,none⟩=some (.slice oa a.frame.length ca):=HX.out.1.cell rfl;have y0:W0.cell? ⟨w.heap.size+1,0,none⟩=some (.int .i64 b.type):=HX.out.2.cell rfl;have y1:W0.cell? ⟨w.heap.size+1,1,none⟩=some (.int .i64 b.loc):=HX.out.2.cell rfl;have y2:W0.cell? ⟨w.heap.size+1,2,none⟩=some (.int .i64 b.prio):=HX.out.2.cell rfl;have y3:W0.cell? ⟨w.heap.size+1,3,none⟩=some (.slice ob b.frame.length cb):=HX.out.2.cell rfl;clear ha hb hB HX;go_enter Tryd.func25,Tryd.ntmps25;go_upto_region 1 with fail
 rw [←hW0];clear hW0;by_cases h1:a.type=b.type;rotate_left
 · have d: (a.type == b.type)=false:=by rw [beq_eq_false_iff_ne];exact h1
   have HZ:Hid (procEqB a b=false):=Lib.hid (decide_eq_false fun e=>h1 e.1);clear h1;go_wp2_with fail;go_ret;exact ⟨retB HZ.out.symm,HB0.out⟩
 have d1: (a.type == b.type)=true:=by rw [beq_iff_eq];exact h1
 have H1:=Lib.hid h1;clear h1;by_cases h2:a.loc=b.loc;rotate_left
 · have d: (a.loc == b.loc)=false:=by rw [beq_eq_false_iff_ne];exact h2
   have HZ:Hid (procEqB a b=false):=Lib.hid (decide_eq_false fun e=>h2 e.2.1);clear h2;go_wp2_with fail;go_ret;exact ⟨retB HZ.out.symm,HB0.out⟩
 have d2: (a.loc == b.loc)=true:=by rw [beq_iff_eq];exact h2
 have H2:=Lib.hid h2;clear h2;by_cases h3:a.prio=b.prio;rotate_left
 · have d: (a.prio == b.prio)=false:=by rw [beq_eq_false_iff_ne];exact h3
   have HZ:Hid (procEqB a b=false):=Lib.hid (decide_eq_false fun e=>h3 e.2.2.1);clear h3;go_wp2_with fail;go_ret;exact ⟨retB HZ.out.symm,HB0.out⟩
 have d3: (a.prio == b.prio)=true:=by rw [beq_iff_eq];exact h3
 have HZ:Hid (decide (a.frame=b.frame)=procEqB a b):=Lib.hid (by unfold procEqB;simp [H1.out,H2.out,h3]);clear h3;go_wp2_with fail;refine HC.out.mono ?_;rintro e W1 ⟨rfl,hb1⟩;have HB1:Hid (Below w.heap.size w W1):=Lib.hid (HB0.out.trans (hb1.mono HB0.out.size));clear hb1 x0 x1 x2 x3 y0 y1 y2 y3;go_wp2_with fail;go_ret;exact ⟨retB HZ.out,HB1.out⟩
end Go.Proofs.YtnoibjahliafpaaDoor
