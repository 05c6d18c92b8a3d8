/- Equal rows of numbers, and of messages. -/
import Derived.Test.YtnoibjahliafpaaGreatDoorM39
import Derived.Laws.EntriesVeiled
set_option linter.unusedVariables false
set_option linter.unusedSimpArgs false
namespace Go.Proofs.YtnoibjahliafpaaGreatDoor
open Go.ChangeShapes Go.WideShapes Go.ChangeAt Go.RowKit
set_option maxRecDepth 100000 in
set_option maxHeartbeats 1000000 in
theorem eqM35 {B:Nat} (a b:List Int) (oa ob:Option Addr) (ca cb:Nat) (w:World) (hB:B≤w.heap.size) (ha:Row B oa 1 (intAt w) a) (hb:Row B ob 1 (intAt w) b):
 Calls Tryz.prog 35 #[.slice oa a.length ca,.slice ob b.length cb] w fun e w'=>e= .returned (.bool (decide (a=b)))∧Below w.heap.size w w':=by
 have HR:=Lib.hid (And.intro ha hb);have HBB:=Lib.hid hB;have la:=ha.1;have lb:=hb.1;have HB0:Hid (Below w.heap.size w w):=Lib.hid (Below.refl _ _);clear ha hb hB;by_cases hl:a.length=b.length;rotate_left
 · have d: ((a.length:Int) != (b.length:Int))=true:=by rw [bne_iff_ne];omega
   have HZ:Hid (decide (a=b)=false):=Lib.hid (decide_eq_false fun e=>hl (by rw [e]));clear hl;go_enter Tryz.func35,Tryz.ntmps35;go_wp2_with fail;go_ret;exact ⟨retB HZ.out.symm,HB0.out⟩
 have d: ((a.length:Int) != (b.length:Int))=false:=by rw [bne_eq_false_iff_eq];omega
 have HL:=Lib.hid hl;have hl1:a.length≤b.length:=by omega
 clear hl;go_enter Tryz.func35,Tryz.ntmps35;go_wp2_with fail;clear d
 go_loopw [13] (fun iv W=>∃i:Nat,iv= .int .i64 i∧i≤a.length∧Hid (∀j (hj:j < a.length) (hj2:j < b.length),j < i→a[j]=b[j])∧Hid (Below w.heap.size w W)) (fun iv _=>a.length - (intOf iv).toNat)
 case atStart=>exact ⟨0,rfl,by omega,Lib.hid fun j _ _ h=>by omega,HB0⟩
 case round=>
  clear HB0;obtain ⟨i,rfl,hi,HJ,HBW⟩:=hrel;have hi0: (0:Int)≤i:=by omega
  by_cases hlt:i < a.length
  · have hlti: (i:Int) < a.length:=by omega
    have hlt2:i < b.length:=by omega
    have hlti2: (i:Int) < b.length:=by omega
    obtain ⟨g1,off1,ho1,hg1,e1⟩:=(HR.out.1.mono fun _ _ _ hg=>intAt.below (HBW.out.mono HBB.out) hg).cell hlt;obtain ⟨g2,off2,ho2,hg2,e2⟩:=(HR.out.2.mono fun _ _ _ hg=>intAt.below (HBW.out.mono HBB.out) hg).cell hlt2;subst ho1 ho2;obtain ⟨x,hx⟩:∃q,a[i]=q:=⟨_,rfl⟩;obtain ⟨y,hy⟩:∃q,b[i]=q:=⟨_,rfl⟩;rw [hx] at e1;rw [hy] at e2;unfold intAt at e1 e2;rw [Nat.mul_one] at e1 e2;have HB3:Hid (∀n,Below w.heap.size w (wr.drewN n)):=Lib.hid fun n=>HBW.out.trans (bdrew (Below.refl _ _) n)
    have HS:Hid (x=y→∀j (hj:j < a.length) (hj2:j < b.length),j < i+1→a[j]=b[j]):=Lib.hid fun h j hj hj2 hji=>by
     by_cases e:j=i
     · subst e;rw [hx,hy,h]
     · exact HJ.out j hj hj2 (by omega)
    have HN:Hid (x≠y→decide (a=b)=false):=Lib.hid fun h=>decide_eq_false fun e=>h (by rw [←hx,←hy];simp only [e])
    clear hx hy hg1 hg2;by_cases z:x=y
    · have d: (x != y)=false:=by rw [bne_eq_false_iff_eq];exact z
      have HZ:=Lib.hid (HS.out z);clear z;go_wp2_with fail;go_quiet (fail);go_wp2_with fail;go_roundw;case rel=>exact ⟨i+1,by go_num,by omega,HZ,Lib.hid (HB3.out _)⟩
      case measure=>simp [intOf];omega
    · have d: (x != y)=true:=by rw [bne_iff_ne];exact z
      have HZ:=Lib.hid (HN.out z);clear z;go_wp2_with fail;go_quiet (fail);go_wp2_with fail;go_ret;exact ⟨retB HZ.out.symm,HB3.out _⟩
  · have hlti:¬ (i:Int) < a.length:=by omega
    have HZ:Hid (decide (a=b)=true):=Lib.hid (decide_eq_true (list_eq_of HL.out fun j hj hj2=>HJ.out j hj hj2 (by omega)));go_wp2_with fail;go_ret;exact ⟨retB HZ.out.symm,HBW.out⟩
set_option maxRecDepth 100000 in
set_option maxHeartbeats 1000000 in
theorem eqN39 {B:Nat} (a b:List Int) (oa ob:Option Addr) (ca cb:Nat) (w:World) (hB:B≤w.heap.size) (ha:Row B oa 1 (intAt w) a) (hb:Row B ob 1 (intAt w) b):
 Calls Tryz.prog 39 #[.slice oa a.length ca,.slice ob b.length cb] w fun e w'=>e= .returned (.bool (decide (a=b)))∧Below w.heap.size w w':=by
 have HR:=Lib.hid (And.intro ha hb);have HBB:=Lib.hid hB;have la:=ha.1;have lb:=hb.1;have HB0:Hid (Below w.heap.size w w):=Lib.hid (Below.refl _ _);clear ha hb hB;by_cases hl:a.length=b.length;rotate_left
 · have d: ((a.length:Int) != (b.length:Int))=true:=by rw [bne_iff_ne];omega
   have HZ:Hid (decide (a=b)=false):=Lib.hid (decide_eq_false fun e=>hl (by rw [e]));clear hl;go_enter Tryz.func39,Tryz.ntmps39;go_wp2_with fail;go_ret;exact ⟨retB HZ.out.symm,HB0.out⟩
 have d: ((a.length:Int) != (b.length:Int))=false:=by rw [bne_eq_false_iff_eq];omega
 have HL:=Lib.hid hl;have hl1:a.length≤b.length:=by omega
 clear hl;go_enter Tryz.func39,Tryz.ntmps39;go_wp2_with fail;clear d
 go_loopw [13] (fun iv W=>∃i:Nat,iv= .int .i64 i∧i≤a.length∧Hid (∀j (hj:j < a.length) (hj2:j < b.length),j < i→a[j]=b[j])∧Hid (Below w.heap.size w W)) (fun iv _=>a.length - (intOf iv).toNat)
 case atStart=>exact ⟨0,rfl,by omega,Lib.hid fun j _ _ h=>by omega,HB0⟩
 case round=>
  clear HB0;obtain ⟨i,rfl,hi,HJ,HBW⟩:=hrel;have hi0: (0:Int)≤i:=by omega
  by_cases hlt:i < a.length
  · have hlti: (i:Int) < a.length:=by omega
    have hlt2:i < b.length:=by omega
    have hlti2: (i:Int) < b.length:=by omega
    obtain ⟨g1,off1,ho1,hg1,e1⟩:=(HR.out.1.mono fun _ _ _ hg=>intAt.below (HBW.out.mono HBB.out) hg).cell hlt;obtain ⟨g2,off2,ho2,hg2,e2⟩:=(HR.out.2.mono fun _ _ _ hg=>intAt.below (HBW.out.mono HBB.out) hg).cell hlt2;subst ho1 ho2;obtain ⟨x,hx⟩:∃q,a[i]=q:=⟨_,rfl⟩;obtain ⟨y,hy⟩:∃q,b[i]=q:=⟨_,rfl⟩;rw [hx] at e1;rw [hy] at e2;unfold intAt at e1 e2;rw [Nat.mul_one] at e1 e2;have HB3:Hid (∀n,Below w.heap.size w (wr.drewN n)):=Lib.hid fun n=>HBW.out.trans (bdrew (Below.refl _ _) n)
    have HS:Hid (x=y→∀j (hj:j < a.length) (hj2:j < b.length),j < i+1→a[j]=b[j]):=Lib.hid fun h j hj hj2 hji=>by
     by_cases e:j=i
     · subst e;rw [hx,hy,h]
     · exact HJ.out j hj hj2 (by omega)
    have HN:Hid (x≠y→decide (a=b)=false):=Lib.hid fun h=>decide_eq_false fun e=>h (by rw [←hx,←hy];simp only [e])
    clear hx hy hg1 hg2;by_cases z:x=y
    · have d: (x != y)=false:=by rw [bne_eq_false_iff_eq];exact z
      have HZ:=Lib.hid (HS.out z);clear z;go_wp2_with fail;go_quiet (fail);go_wp2_with fail;go_roundw;case rel=>exact ⟨i+1,by go_num,by omega,HZ,Lib.hid (HB3.out _)⟩
      case measure=>simp [intOf];omega
    · have d: (x != y)=true:=by rw [bne_iff_ne];exact z
      have HZ:=Lib.hid (HN.out z);clear z;go_wp2_with fail;go_quiet (fail);go_wp2_with fail;go_ret;exact ⟨retB HZ.out.symm,HB3.out _⟩
  · have hlti:¬ (i:Int) < a.length:=by omega
    have HZ:Hid (decide (a=b)=true):=Lib.hid (decide_eq_true (list_eq_of HL.out fun j hj hj2=>HJ.out j hj hj2 (by omega)));go_wp2_with fail;go_ret;exact ⟨retB HZ.out.symm,HBW.out⟩
set_option maxRecDepth 100000 in
theorem cl34 {B:Nat} (a b:List Int) (oa ob:Option Addr) (ca cb:Nat) (w:World) (hB:B≤w.heap.size) (ha:Row B oa 1 (intAt w) a) (hb:Row B ob 1 (intAt w) b):
 Calls Tryz.prog 34 #[.slice oa a.length ca,.slice ob b.length cb] w fun e w'=>e= .returned (.bool (decide (a=b)))∧Below w.heap.size w w':=by
 have HC:=Lib.hid (eqM35 a b oa ob ca cb w hB ha hb);clear ha hb hB;go_enter Tryz.func34,Tryz.ntmps34;go_wp2_with fail;refine HC.out.mono ?_;rintro e W1 ⟨rfl,hb1⟩;have HB:=Lib.hid hb1;clear hb1;go_wp2_with fail;go_ret;exact ⟨rfl,HB.out⟩
def fn34:Value:= .func (.func 34) #[] #[]
set_option maxRecDepth 100000 in
set_option maxHeartbeats 1000000 in
theorem eqQ37 {B:Nat} (a b:List (List Int)) (oa ob:Option Addr) (ca cb:Nat) (w:World) (hB:B≤w.heap.size) (ha:Row B oa 1 (msgAt B w) a) (hb:Row B ob 1 (msgAt B w) b):
 Calls Tryz.prog 37 #[.slice oa a.length ca,.slice ob b.length cb,fn34] w fun e w'=>e= .returned (.bool (decide (a=b)))∧Below w.heap.size w w':=by
 have HR:=Lib.hid (And.intro ha hb);have HBB:=Lib.hid hB;have la:=ha.1;have lb:=hb.1;have HB0:Hid (Below w.heap.size w w):=Lib.hid (Below.refl _ _);clear ha hb hB;unfold fn34;by_cases hl:a.length=b.length;rotate_left
 · have d: ((a.length:Int) != (b.length:Int))=true:=by rw [bne_iff_ne];omega
   have HZ:Hid (decide (a=b)=false):=Lib.hid (decide_eq_false fun e=>hl (by rw [e]));clear hl;go_enter Tryz.func37,Tryz.ntmps37;go_wp2_with fail;go_ret;exact ⟨retB HZ.out.symm,HB0.out⟩
 have d: ((a.length:Int) != (b.length:Int))=false:=by rw [bne_eq_false_iff_eq];omega
 have HL:=Lib.hid hl;have hl1:a.length≤b.length:=by omega
 clear hl;go_enter Tryz.func37,Tryz.ntmps37;go_wp2_with fail;clear d
 go_loopw [17] (fun iv W=>∃i:Nat,iv= .int .i64 i∧i≤a.length∧Hid (∀j (hj:j < a.length) (hj2:j < b.length),j < i→a[j]=b[j])∧Hid (Below w.heap.size w W)) (fun iv _=>a.length - (intOf iv).toNat)
 case atStart=>exact ⟨0,rfl,by omega,Lib.hid fun j _ _ h=>by omega,HB0⟩
 case round=>
  clear HB0;obtain ⟨i,rfl,hi,HJ,HBW⟩:=hrel;have hi0: (0:Int)≤i:=by omega
  by_cases hlt:i < a.length
  · have hlti: (i:Int) < a.length:=by omega
    have hlt2:i < b.length:=by omega
    have hlti2: (i:Int) < b.length:=by omega
    obtain ⟨g1,off1,ho1,hg1,m1,c1,e1,hr1⟩:=(HR.out.1.mono fun _ _ _ hg=>msgAt.below (HBW.out.mono HBB.out) hg).cell hlt;obtain ⟨g2,off2,ho2,hg2,m2,c2,e2,hr2⟩:=(HR.out.2.mono fun _ _ _ hg=>msgAt.below (HBW.out.mono HBB.out) hg).cell hlt2;subst ho1 ho2;obtain ⟨x,hx⟩:∃q,a[i]=q:=⟨_,rfl⟩;obtain ⟨y,hy⟩:∃q,b[i]=q:=⟨_,rfl⟩;rw [hx] at e1 hr1;rw [hy] at e2 hr2;rw [Nat.mul_one] at e1 e2;have HC:=Lib.hid (cl34 (B:=B) x y m1 m2 c1 c2 wr (Nat.le_trans HBB.out HBW.out.size) hr1 hr2);have HS:Hid (x=y→∀j (hj:j < a.length) (hj2:j < b.length),j < i+1→a[j]=b[j]):=Lib.hid fun h j hj hj2 hji=>by
     by_cases e:j=i
     · subst e;rw [hx,hy,h]
     · exact HJ.out j hj hj2 (by omega)
    have HN:Hid (x≠y→decide (a=b)=false):=Lib.hid fun h=>decide_eq_false fun e=>h (by rw [←hx,←hy];simp only [e])
    obtain ⟨bb,hbb⟩:∃q,decide (x=y)=q:=⟨_,rfl⟩;have HBQ:=Lib.hid hbb;rw [hbb] at HC;clear hx hy hg1 hg2 hr1 hr2 hbb;go_wp2_with fail;refine HC.out.mono ?_;rintro e W1 ⟨rfl,hb1⟩;have HB1:Hid (Below w.heap.size w W1):=Lib.hid (HBW.out.trans (hb1.mono HBW.out.size));clear hb1 e1 e2;cases bb
    · have HZ:=Lib.hid (HN.out (of_decide_eq_false HBQ.out));go_wp2_with fail;go_ret;exact ⟨retB HZ.out.symm,HB1.out⟩
    · have HZ:=Lib.hid (HS.out (of_decide_eq_true HBQ.out));go_wp2_with fail;go_roundw;case rel=>exact ⟨i+1,by go_num,by omega,HZ,HB1⟩
      case measure=>simp [intOf];omega
  · have hlti:¬ (i:Int) < a.length:=by omega
    have HZ:Hid (decide (a=b)=true):=Lib.hid (decide_eq_true (list_eq_of HL.out fun j hj hj2=>HJ.out j hj hj2 (by omega)));go_wp2_with fail;go_ret;exact ⟨retB HZ.out.symm,HBW.out⟩
def FBx (w:World) (p:Nat):Prop:=w.heap[p]? =some (.cells #[fn34] 81 (0,0))
set_option maxRecDepth 100000 in
set_option maxHeartbeats 1000000 in
theorem cl36 {B:Nat} (a b:ChanD) (oa ob:Option Addr) (ca cb p:Nat) (w:World) (hB:B≤w.heap.size) (hp:FBx w p) (ha:Row B oa 1 (msgAt B w) a.queue) (hb:Row B ob 1 (msgAt B w) b.queue):
 Calls Tryz.prog 36 #[.agg #[.int .i64 a.shape,.slice oa a.queue.length ca],.agg #[.int .i64 b.shape,.slice ob b.queue.length cb],.pointer (some ⟨p,0,none⟩)] w fun e w'=>e= .returned (.bool (chanEqB a b))∧Below w.heap.size w w':=by
 obtain ⟨W0,hW0⟩:∃W,W= (w.alloc (.cells #[.int .i64 a.shape,.slice oa a.queue.length ca] 66)).alloc (.cells #[.int .i64 b.shape,.slice ob b.queue.length cb] 66):=⟨_,rfl⟩;have HB0:Hid (Below w.heap.size w W0):=Lib.hid (by rw [hW0];exact ((Below.refl _ _).alloc (Nat.le_refl _) _).alloc (by simp) _);have HX:Hid (Bq w w.heap.size #[.int .i64 a.shape,.slice oa a.queue.length ca] 66 W0∧Bq w (w.heap.size+1) #[.int .i64 b.shape,.slice ob b.queue.length cb] 66 W0):=Lib.hid (by rw [hW0];exact ⟨(Bq.new (Below.refl _ _) _ _).below (ball _),new_at (by simp),(Bq.new (Below.refl _ _) _ _).bel.alloc (by simp) _⟩);have HC:=Lib.hid (eqQ37 (B:=B) a.queue b.queue oa ob ca cb W0 (Nat.le_trans hB HB0.out.size) (ha.mono fun _ _ _ hg=>msgAt.below (HB0.out.mono hB) hg) (hb.mono fun _ _ _ hg=>msgAt.below (HB0.out.mono hB) hg));have z1:W0.cell? ⟨p,0,none⟩=some fn34:=(HB0.out.cell (p:=⟨p,0,none⟩) (lt_of_block hp)).trans ((cell_of_row _ _ 0 _ _ _ hp).trans rfl);have x0:W0.cell? ⟨w.heap.size,0,none⟩=some (.int .i64 a.shape):=HX.out.1.cell rfl;have x1:W0.cell? ⟨w.heap.size,1,none⟩=some (.slice oa a.queue.length ca):=HX.out.1.cell rfl;have y0:W0.cell? ⟨w.heap.size+1,0,none⟩=some (.int .i64 b.shape):=HX.out.2.cell rfl;have y1:W0.cell? ⟨w.heap.size+1,1,none⟩=some (.slice ob b.queue.length cb):=HX.out.2.cell rfl;clear ha hb hB hp HX;unfold fn34 at z1 HC;go_enter Tryz.func36,Tryz.ntmps36;go_upto_region 1 with fail
 rw [←hW0];clear hW0;by_cases hs:a.shape=b.shape;rotate_left
 · have d: (a.shape == b.shape)=false:=by rw [beq_eq_false_iff_ne];exact hs
   have HZ:Hid (chanEqB a b=false):=Lib.hid (decide_eq_false fun e=>hs e.1);clear hs;go_wp2_with fail;go_ret;exact ⟨retB HZ.out.symm,HB0.out⟩
 have d: (a.shape == b.shape)=true:=by rw [beq_iff_eq];exact hs
 have HZ:Hid (decide (a.queue=b.queue)=chanEqB a b):=Lib.hid (by unfold chanEqB;simp [hs]);clear hs;go_wp2_with fail;refine HC.out.mono ?_;rintro e W1 ⟨rfl,hb1⟩;have HB1:Hid (Below w.heap.size w W1):=Lib.hid (HB0.out.trans (hb1.mono HB0.out.size));clear hb1 x0 x1 y0 y1 z1;go_wp2_with fail;go_ret;exact ⟨retB HZ.out,HB1.out⟩
def procEqB (a b:ProcessD):Bool:=decide (a.type=b.type∧a.loc=b.loc∧a.prio=b.prio∧a.frame=b.frame)
set_option maxRecDepth 100000 in
set_option maxHeartbeats 1000000 in
theorem cl38 {B:Nat} (a b:ProcessD) (oa ob:Option Addr) (ca cb:Nat) (w:World) (hB:B≤w.heap.size) (ha:Row B oa 1 (intAt w) a.frame) (hb:Row B ob 1 (intAt w) b.frame):
 Calls Tryz.prog 38 #[.agg #[.int .i64 a.type,.int .i64 a.loc,.int .i64 a.prio,.slice oa a.frame.length ca],.agg #[.int .i64 b.type,.int .i64 b.loc,.int .i64 b.prio,.slice ob b.frame.length cb]] w fun e w'=>e= .returned (.bool (procEqB a b))∧Below w.heap.size w w':=by
 obtain ⟨W0,hW0⟩:∃W,W= (w.alloc (.cells #[.int .i64 a.type,.int .i64 a.loc,.int .i64 a.prio,.slice oa a.frame.length ca] 39)).alloc (.cells #[.int .i64 b.type,.int .i64 b.loc,.int .i64 b.prio,.slice ob b.frame.length cb] 39):=⟨_,rfl⟩;have HB0:Hid (Below w.heap.size w W0):=Lib.hid (by rw [hW0];exact ((Below.refl _ _).alloc (Nat.le_refl _) _).alloc (by simp) _);have HX:Hid (Bq w w.heap.size #[.int .i64 a.type,.int .i64 a.loc,.int .i64 a.prio,.slice oa a.frame.length ca] 39 W0∧Bq w (w.heap.size+1) #[.int .i64 b.type,.int .i64 b.loc,.int .i64 b.prio,.slice ob b.frame.length cb] 39 W0):=Lib.hid (by rw [hW0];exact ⟨(Bq.new (Below.refl _ _) _ _).below (ball _),new_at (by simp),(Bq.new (Below.refl _ _) _ _).bel.alloc (by simp) _⟩);have HC:=Lib.hid (eqN39 (B:=B) a.frame b.frame oa ob ca cb W0 (Nat.le_trans hB HB0.out.size) (ha.mono fun _ _ _ hg=>intAt.below (HB0.out.mono hB) hg) (hb.mono fun _ _ _ hg=>intAt.below (HB0.out.mono hB) hg));have x0:W0.cell? ⟨w.heap.size,0,none⟩=some (.int .i64 a.type):=HX.out.1.cell rfl;have x1:W0.cell? ⟨w.heap.size,1,none⟩=some (.int .i64 a.loc):=HX.out.1.cell rfl;have x2:W0.cell? ⟨w.heap.size,2,none⟩=some (.int .i64 a.prio):=HX.out.1.cell rfl;have x3:W0.cell? ⟨w.heap.size,3,none⟩=some (.slice oa a.frame.length ca):=HX.out.1.cell rfl;have y0:W0.cell? ⟨w.heap.size+1,0,none⟩=some (.int .i64 b.type):=HX.out.2.cell rfl;have y1:W0.cell? ⟨w.heap.size+1,1,none⟩=some (.int .i64 b.loc):=HX.out.2.cell rfl;have y2:W0.cell? ⟨w.heap.size+1,2,none⟩=some (.int .i64 b.prio):=HX.out.2.cell rfl;have y3:W0.cell? ⟨w.heap.size+1,3,none⟩=some (.slice ob b.frame.length cb):=HX.out.2.cell rfl;clear ha hb hB HX;go_enter Tryz.func38,Tryz.ntmps38;go_upto_region 1 with fail
 rw [←hW0];clear hW0;by_cases h1:a.type=b.type;rotate_left
 · have d: (a.type == b.type)=false:=by rw [beq_eq_false_iff_ne];exact h1
   have HZ:Hid (procEqB a b=false):=Lib.hid (decide_eq_false fun e=>h1 e.1);clear h1;go_wp2_with fail;go_ret;exact ⟨retB HZ.out.symm,HB0.out⟩
 have d1: (a.type == b.type)=true:=by rw [beq_iff_eq];exact h1
 have H1:=Lib.hid h1;clear h1;by_cases h2:a.loc=b.loc;rotate_left
 · have d: (a.loc == b.loc)=false:=by rw [beq_eq_false_iff_ne];exact h2
   have HZ:Hid (procEqB a b=false):=Lib.hid (decide_eq_false fun e=>h2 e.2.1);clear h2;go_wp2_with fail;go_ret;exact ⟨retB HZ.out.symm,HB0.out⟩
 have d2: (a.loc == b.loc)=true:=by rw [beq_iff_eq];exact h2
 have H2:=Lib.hid h2;clear h2;by_cases h3:a.prio=b.prio;rotate_left
 · have d: (a.prio == b.prio)=false:=by rw [beq_eq_false_iff_ne];exact h3
   have HZ:Hid (procEqB a b=false):=Lib.hid (decide_eq_false fun e=>h3 e.2.2.1);clear h3;go_wp2_with fail;go_ret;exact ⟨retB HZ.out.symm,HB0.out⟩
 have d3: (a.prio == b.prio)=true:=by rw [beq_iff_eq];exact h3
 have HZ:Hid (decide (a.frame=b.frame)=procEqB a b):=Lib.hid (by unfold procEqB;simp [H1.out,H2.out,h3]);clear h3;go_wp2_with fail;refine HC.out.mono ?_;rintro e W1 ⟨rfl,hb1⟩;have HB1:Hid (Below w.heap.size w W1):=Lib.hid (HB0.out.trans (hb1.mono HB0.out.size));clear hb1 x0 x1 x2 x3 y0 y1 y2 y3;go_wp2_with fail;go_ret;exact ⟨retB HZ.out,HB1.out⟩
end Go.Proofs.YtnoibjahliafpaaGreatDoor
namespace Go.Proofs.YtnoibjahliafpaaGreatDoor
open Go.ChangeShapes Go.WideShapes Go.ChangeAt Go.RowKit
noncomputable def allB {α:Type} (a b:List α):Bool:= @decide (a=b) (Classical.propDecidable _)
theorem allB_yes {α:Type} {a b:List α} (h:a=b):allB a b=true:=by unfold allB;simp [h]
theorem allB_no {α:Type} {a b:List α} (h:a≠b):allB a b=false:=by unfold allB;simp [h]
theorem proc_ext2 {a b:ProcessD} (h:procEqB a b=true):a=b:=by
 have:=of_decide_eq_true h;cases a;cases b;simp_all
theorem proc_next {a b:ProcessD} (h:procEqB a b=false):a≠b:=fun e=>by
 have:=of_decide_eq_false h;subst e;exact this ⟨rfl,rfl,rfl,rfl⟩
set_option maxRecDepth 100000 in
set_option maxHeartbeats 2000000 in
theorem eqC40 {B:Nat} (a b:List ChanD) (oa ob:Option Addr) (ca cb p:Nat) (w:World) (hB:B≤w.heap.size) (hp:FBx w p) (ha:Row B oa 2 (chanAt B w) a) (hb:Row B ob 2 (chanAt B w) b):
 Calls Tryz.prog 40 #[.slice oa a.length ca,.slice ob b.length cb,.func (.func 36) #[] #[.pointer (some ⟨p,0,none⟩)]] w fun e w'=>e= .returned (.bool (allB a b))∧Below w.heap.size w w':=by
 have HR:=Lib.hid (And.intro ha hb);have HBB:=Lib.hid hB;have HFB:=Lib.hid hp;have la:=ha.1;have lb:=hb.1;have HB0:Hid (Below w.heap.size w w):=Lib.hid (Below.refl _ _);clear ha hb hB hp;by_cases hl:a.length=b.length;rotate_left
 · have d: ((a.length:Int) != (b.length:Int))=true:=by rw [bne_iff_ne];omega
   have HZ:Hid (allB a b=false):=Lib.hid (allB_no fun e=>hl (by rw [e]));clear hl;go_enter Tryz.func40,Tryz.ntmps40;go_wp2_with fail;go_ret;exact ⟨retB HZ.out.symm,HB0.out⟩
 have d: ((a.length:Int) != (b.length:Int))=false:=by rw [bne_eq_false_iff_eq];omega
 have HL:=Lib.hid hl;have hl1:a.length≤b.length:=by omega
 clear hl;go_enter Tryz.func40,Tryz.ntmps40;go_wp2_with fail;clear d
 go_loopw [17] (fun iv W=>∃i:Nat,iv= .int .i64 i∧i≤a.length∧Hid (∀j (hj:j < a.length) (hj2:j < b.length),j < i→a[j]=b[j])∧Hid (Below w.heap.size w W)) (fun iv _=>a.length - (intOf iv).toNat)
 case atStart=>exact ⟨0,rfl,by omega,Lib.hid fun j _ _ h=>by omega,HB0⟩
 case round=>
  clear HB0;obtain ⟨i,rfl,hi,HJ,HBW⟩:=hrel;have hi0: (0:Int)≤i:=by omega
  by_cases hlt:i < a.length
  · have hlti: (i:Int) < a.length:=by omega
    have hlt2:i < b.length:=by omega
    have hlti2: (i:Int) < b.length:=by omega
    obtain ⟨g1,off1,ho1,hg1,xa⟩:=(HR.out.1.mono fun _ _ _ hg=>chanAt.below (HBW.out.mono HBB.out) hg).cell hlt;obtain ⟨g2,off2,ho2,hg2,xb⟩:=(HR.out.2.mono fun _ _ _ hg=>chanAt.below (HBW.out.mono HBB.out) hg).cell hlt2;subst ho1 ho2;obtain ⟨x,hx⟩:∃q,a[i]=q:=⟨_,rfl⟩;obtain ⟨y,hy⟩:∃q,b[i]=q:=⟨_,rfl⟩;rw [hx] at xa;rw [hy] at xb;obtain ⟨oa2,ca2,ea1,hra⟩:=xa.queue;obtain ⟨ob2,cb2,eb1,hrb⟩:=xb.queue;have ea0:=xa.c0;have eb0:=xb.c0;have fb0:=Lib.cell?_alloc_some (Obj.cells #[.int .i64 x.shape,.slice oa2 x.queue.length ca2] 66) eb0;have fb1:=Lib.cell?_alloc_some (Obj.cells #[.int .i64 x.shape,.slice oa2 x.queue.length ca2] 66) eb1;have hbw:=Nat.le_trans HBB.out HBW.out.size;have HG:Hid (g1 < wr.heap.size∧g2 < wr.heap.size):=Lib.hid ⟨by omega,by omega⟩;obtain ⟨W0,hW0⟩:∃W,W= (wr.alloc (.cells #[.int .i64 x.shape,.slice oa2 x.queue.length ca2] 66)).alloc (.cells #[.int .i64 y.shape,.slice ob2 y.queue.length cb2] 66):=⟨_,rfl⟩;have HB1:Hid (Below wr.heap.size wr W0):=Lib.hid (by rw [hW0];exact ((Below.refl _ _).alloc (Nat.le_refl _) _).alloc (by simp) _);have HX:Hid (Bq wr wr.heap.size #[.int .i64 x.shape,.slice oa2 x.queue.length ca2] 66 W0∧Bq wr (wr.heap.size+1) #[.int .i64 y.shape,.slice ob2 y.queue.length cb2] 66 W0):=Lib.hid (by rw [hW0];exact ⟨(Bq.new (Below.refl _ _) _ _).below (ball _),new_at (by simp),(Bq.new (Below.refl _ _) _ _).bel.alloc (by simp) _⟩);have HC:=Lib.hid (cl36 (B:=B) x y oa2 ob2 ca2 cb2 p W0 (Nat.le_trans hbw HB1.out.size) ((HB1.out.block p (Nat.lt_of_lt_of_le (lt_of_block HFB.out) HBW.out.size)).trans ((HBW.out.block p (lt_of_block HFB.out)).trans HFB.out)) (hra.mono fun _ _ _ hg=>msgAt.below (HB1.out.mono hbw) hg) (hrb.mono fun _ _ _ hg=>msgAt.below (HB1.out.mono hbw) hg));have HS:Hid (x=y→∀j (hj:j < a.length) (hj2:j < b.length),j < i+1→a[j]=b[j]):=Lib.hid fun h j hj hj2 hji=>by
     by_cases e:j=i
     · subst e;rw [hx,hy,h]
     · exact HJ.out j hj hj2 (by omega)
    have HN:Hid (x≠y→allB a b=false):=Lib.hid fun h=>allB_no fun e=>h (by rw [←hx,←hy];simp only [e])
    obtain ⟨bb,hbb⟩:∃q,chanEqB x y=q:=⟨_,rfl⟩;have HBQ:=Lib.hid hbb;rw [hbb] at HC;clear hx hy hg1 hg2 hra hrb hbb xa xb hbw;go_upto_region 7 with fail
    rw [←hW0];clear hW0 ea0 ea1 eb0 eb1 fb0 fb1;have x0:W0.cell? ⟨wr.heap.size,0,none⟩=some (.int .i64 x.shape):=HX.out.1.cell rfl;have x1:W0.cell? ⟨wr.heap.size,1,none⟩=some (.slice oa2 x.queue.length ca2):=HX.out.1.cell rfl;have y0:W0.cell? ⟨wr.heap.size+1,0,none⟩=some (.int .i64 y.shape):=HX.out.2.cell rfl;have y1:W0.cell? ⟨wr.heap.size+1,1,none⟩=some (.slice ob2 y.queue.length cb2):=HX.out.2.cell rfl;go_wp2_with fail;refine HC.out.mono ?_;rintro e W1 ⟨rfl,hb1⟩;have HB2:Hid (Below w.heap.size w W1):=Lib.hid (HBW.out.trans ((HB1.out.trans (hb1.mono HB1.out.size)).mono HBW.out.size));clear hb1 x0 x1 y0 y1;cases bb
    · have HZ:=Lib.hid (HN.out (chan_next HBQ.out));go_wp2_with fail;go_ret;exact ⟨retB HZ.out.symm,HB2.out⟩
    · have HZ:=Lib.hid (HS.out (chan_ext HBQ.out));go_wp2_with fail;go_roundw;case rel=>exact ⟨i+1,by go_num,by omega,HZ,HB2⟩
      case measure=>simp [intOf];omega
  · have hlti:¬ (i:Int) < a.length:=by omega
    have HZ:Hid (allB a b=true):=Lib.hid (allB_yes (list_eq_of HL.out fun j hj hj2=>HJ.out j hj hj2 (by omega)));go_wp2_with fail;go_ret;exact ⟨retB HZ.out.symm,HBW.out⟩
set_option maxRecDepth 100000 in
set_option maxHeartbeats 2000000 in
theorem eqP41 {B:Nat} (a b:List ProcessD) (oa ob:Option Addr) (ca cb:Nat) (w:World) (hB:B≤w.heap.size) (ha:Row B oa 4 (processAt B w) a) (hb:Row B ob 4 (processAt B w) b):
 Calls Tryz.prog 41 #[.slice oa a.length ca,.slice ob b.length cb,.func (.func 38) #[] #[]] w fun e w'=>e= .returned (.bool (allB a b))∧Below w.heap.size w w':=by
 have HR:=Lib.hid (And.intro ha hb);have HBB:=Lib.hid hB;have la:=ha.1;have lb:=hb.1;have HB0:Hid (Below w.heap.size w w):=Lib.hid (Below.refl _ _);clear ha hb hB;by_cases hl:a.length=b.length;rotate_left
 · have d: ((a.length:Int) != (b.length:Int))=true:=by rw [bne_iff_ne];omega
   have HZ:Hid (allB a b=false):=Lib.hid (allB_no fun e=>hl (by rw [e]));clear hl;go_enter Tryz.func41,Tryz.ntmps41;go_wp2_with fail;go_ret;exact ⟨retB HZ.out.symm,HB0.out⟩
 have d: ((a.length:Int) != (b.length:Int))=false:=by rw [bne_eq_false_iff_eq];omega
 have HL:=Lib.hid hl;have hl1:a.length≤b.length:=by omega
 clear hl;go_enter Tryz.func41,Tryz.ntmps41;go_wp2_with fail;clear d
 go_loopw [17] (fun iv W=>∃i:Nat,iv= .int .i64 i∧i≤a.length∧Hid (∀j (hj:j < a.length) (hj2:j < b.length),j < i→a[j]=b[j])∧Hid (Below w.heap.size w W)) (fun iv _=>a.length - (intOf iv).toNat)
 case atStart=>exact ⟨0,rfl,by omega,Lib.hid fun j _ _ h=>by omega,HB0⟩
 case round=>
  clear HB0;obtain ⟨i,rfl,hi,HJ,HBW⟩:=hrel;have hi0: (0:Int)≤i:=by omega
  by_cases hlt:i < a.length
  · have hlti: (i:Int) < a.length:=by omega
    have hlt2:i < b.length:=by omega
    have hlti2: (i:Int) < b.length:=by omega
    obtain ⟨g1,off1,ho1,hg1,xa⟩:=(HR.out.1.mono fun _ _ _ hg=>processAt.below (HBW.out.mono HBB.out) hg).cell hlt;obtain ⟨g2,off2,ho2,hg2,xb⟩:=(HR.out.2.mono fun _ _ _ hg=>processAt.below (HBW.out.mono HBB.out) hg).cell hlt2;subst ho1 ho2;obtain ⟨x,hx⟩:∃q,a[i]=q:=⟨_,rfl⟩;obtain ⟨y,hy⟩:∃q,b[i]=q:=⟨_,rfl⟩;rw [hx] at xa;rw [hy] at xb;obtain ⟨oa2,ca2,ea3,hra⟩:=xa.frame;obtain ⟨ob2,cb2,eb3,hrb⟩:=xb.frame;have ea0:=xa.c0;have ea1:=xa.c1;have ea2:=xa.c2;have eb0:=xb.c0;have eb1:=xb.c1;have eb2:=xb.c2;have fb0:=Lib.cell?_alloc_some (Obj.cells #[.int .i64 x.type,.int .i64 x.loc,.int .i64 x.prio,.slice oa2 x.frame.length ca2] 39) eb0;have fb1:=Lib.cell?_alloc_some (Obj.cells #[.int .i64 x.type,.int .i64 x.loc,.int .i64 x.prio,.slice oa2 x.frame.length ca2] 39) eb1;have fb2:=Lib.cell?_alloc_some (Obj.cells #[.int .i64 x.type,.int .i64 x.loc,.int .i64 x.prio,.slice oa2 x.frame.length ca2] 39) eb2;have fb3:=Lib.cell?_alloc_some (Obj.cells #[.int .i64 x.type,.int .i64 x.loc,.int .i64 x.prio,.slice oa2 x.frame.length ca2] 39) eb3;have hbw:=Nat.le_trans HBB.out HBW.out.size;have HG:Hid (g1 < wr.heap.size∧g2 < wr.heap.size):=Lib.hid ⟨by omega,by omega⟩;obtain ⟨W0,hW0⟩:∃W,W= (wr.alloc (.cells #[.int .i64 x.type,.int .i64 x.loc,.int .i64 x.prio,.slice oa2 x.frame.length ca2] 39)).alloc (.cells #[.int .i64 y.type,.int .i64 y.loc,.int .i64 y.prio,.slice ob2 y.frame.length cb2] 39):=⟨_,rfl⟩;have HB1:Hid (Below wr.heap.size wr W0):=Lib.hid (by rw [hW0];exact ((Below.refl _ _).alloc (Nat.le_refl _) _).alloc (by simp) _);have HX:Hid (Bq wr wr.heap.size #[.int .i64 x.type,.int .i64 x.loc,.int .i64 x.prio,.slice oa2 x.frame.length ca2] 39 W0∧Bq wr (wr.heap.size+1) #[.int .i64 y.type,.int .i64 y.loc,.int .i64 y.prio,.slice ob2 y.frame.length cb2] 39 W0):=Lib.hid (by rw [hW0];exact ⟨(Bq.new (Below.refl _ _) _ _).below (ball _),new_at (by simp),(Bq.new (Below.refl _ _) _ _).bel.alloc (by simp) _⟩);have HC:=Lib.hid (cl38 (B:=B) x y oa2 ob2 ca2 cb2 W0 (Nat.le_trans hbw HB1.out.size) (hra.mono fun _ _ _ hg=>intAt.below (HB1.out.mono hbw) hg) (hrb.mono fun _ _ _ hg=>intAt.below (HB1.out.mono hbw) hg));have HS:Hid (x=y→∀j (hj:j < a.length) (hj2:j < b.length),j < i+1→a[j]=b[j]):=Lib.hid fun h j hj hj2 hji=>by
     by_cases e:j=i
     · subst e;rw [hx,hy,h]
     · exact HJ.out j hj hj2 (by omega)
    have HN:Hid (x≠y→allB a b=false):=Lib.hid fun h=>allB_no fun e=>h (by rw [←hx,←hy];simp only [e])
    obtain ⟨bb,hbb⟩:∃q,procEqB x y=q:=⟨_,rfl⟩;have HBQ:=Lib.hid hbb;rw [hbb] at HC;clear hx hy hg1 hg2 hra hrb hbb xa xb hbw;go_upto_region 7 with fail
    rw [←hW0];clear hW0 ea0 ea1 ea2 ea3 eb0 eb1 eb2 eb3 fb0 fb1 fb2 fb3;have x0:W0.cell? ⟨wr.heap.size,0,none⟩=some (.int .i64 x.type):=HX.out.1.cell rfl;have x1:W0.cell? ⟨wr.heap.size,1,none⟩=some (.int .i64 x.loc):=HX.out.1.cell rfl;have x2:W0.cell? ⟨wr.heap.size,2,none⟩=some (.int .i64 x.prio):=HX.out.1.cell rfl;have x3:W0.cell? ⟨wr.heap.size,3,none⟩=some (.slice oa2 x.frame.length ca2):=HX.out.1.cell rfl;have y0:W0.cell? ⟨wr.heap.size+1,0,none⟩=some (.int .i64 y.type):=HX.out.2.cell rfl;have y1:W0.cell? ⟨wr.heap.size+1,1,none⟩=some (.int .i64 y.loc):=HX.out.2.cell rfl;have y2:W0.cell? ⟨wr.heap.size+1,2,none⟩=some (.int .i64 y.prio):=HX.out.2.cell rfl;have y3:W0.cell? ⟨wr.heap.size+1,3,none⟩=some (.slice ob2 y.frame.length cb2):=HX.out.2.cell rfl;go_wp2_with fail;refine HC.out.mono ?_;rintro e W1 ⟨rfl,hb1⟩;have HB2:Hid (Below w.heap.size w W1):=Lib.hid (HBW.out.trans ((HB1.out.trans (hb1.mono HB1.out.size)).mono HBW.out.size));clear hb1 x0 x1 x2 x3 y0 y1 y2 y3;cases bb
    · have HZ:=Lib.hid (HN.out (proc_next HBQ.out));go_wp2_with fail;go_ret;exact ⟨retB HZ.out.symm,HB2.out⟩
    · have HZ:=Lib.hid (HS.out (proc_ext2 HBQ.out));go_wp2_with fail;go_roundw;case rel=>exact ⟨i+1,by go_num,by omega,HZ,HB2⟩
      case measure=>simp [intOf];omega
  · have hlti:¬ (i:Int) < a.length:=by omega
    have HZ:Hid (allB a b=true):=Lib.hid (allB_yes (list_eq_of HL.out fun j hj hj2=>HJ.out j hj hj2 (by omega)));go_wp2_with fail;go_ret;exact ⟨retB HZ.out.symm,HBW.out⟩
set_option maxRecDepth 100000 in
set_option maxHeartbeats 2000000 in
theorem sameC {B:Nat} (s t:StateD) (hs ht:SH) (w:World) (hB:B≤w.heap.size) (h1:SD B w hs s) (h2:SD B w ht t):
 Calls Tryz.prog 18 #[sV hs s,sV ht t] w fun e w'=>e= .returned (.bool (sameB s t))∧Below w.heap.size w w':=by
 obtain ⟨W0,hW0⟩:∃W,W= ((w.alloc (.cells (sCells hs s) 34)).alloc (.cells (sCells ht t) 34)).alloc (.cells #[fn34] 81):=⟨_,rfl⟩;have HX:Hid (Z2 w B hs ht s t W0):=Lib.hid (by rw [hW0];exact (Z2.new hB h1 h2).below (ball _));have HF:Hid (FBx W0 (w.heap.size+2)):=Lib.hid (by rw [hW0];exact new_at (by simp));have lg1:=h1.globals.1;have lg2:=h2.globals.1;have lc1:=h1.chans.1;have lc2:=h2.chans.1;have lp1:=h1.procs.1;have lp2:=h2.procs.1;clear h1 h2 hB;unfold sCells fn34 at hW0;unfold sV sCells;go_enter Tryz.func18,Tryz.ntmps18;go_upto_region 4 with fail
 rw [←hW0];clear hW0;have HCE:Hid (∀W,Below W0.heap.size W0 W→W.cell? ⟨w.heap.size,0,none⟩=some (.slice hs.go s.globals.length hs.gc)∧W.cell? ⟨w.heap.size+1,0,none⟩=some (.slice ht.go t.globals.length ht.gc)∧W.cell? ⟨w.heap.size,1,none⟩=some (.slice hs.co s.chans.length hs.cc)∧W.cell? ⟨w.heap.size+1,1,none⟩=some (.slice ht.co t.chans.length ht.cc)∧W.cell? ⟨w.heap.size,2,none⟩=some (.slice hs.po s.procs.length hs.pc)∧W.cell? ⟨w.heap.size+1,2,none⟩=some (.slice ht.po t.procs.length ht.pc)):=Lib.hid fun W hb=>⟨(HX.out.below hb).a.cell rfl,(HX.out.below hb).b.cell rfl,(HX.out.below hb).a.cell rfl,(HX.out.below hb).b.cell rfl,(HX.out.below hb).a.cell rfl,(HX.out.below hb).b.cell rfl⟩
 have HCN:Hid (∀W,Below W0.heap.size W0 W→W.cell? ⟨w.heap.size,3,none⟩=some (.int .i64 s.last)∧W.cell? ⟨w.heap.size+1,3,none⟩=some (.int .i64 t.last)∧W.cell? ⟨w.heap.size,4,none⟩=some (.int .i64 s.alone)∧W.cell? ⟨w.heap.size+1,4,none⟩=some (.int .i64 t.alone)∧W.cell? ⟨w.heap.size,5,none⟩=some (.int .i64 s.claim)∧W.cell? ⟨w.heap.size+1,5,none⟩=some (.int .i64 t.claim)):=Lib.hid fun W hb=>⟨(HX.out.below hb).a.cell rfl,(HX.out.below hb).b.cell rfl,(HX.out.below hb).a.cell rfl,(HX.out.below hb).b.cell rfl,(HX.out.below hb).a.cell rfl,(HX.out.below hb).b.cell rfl⟩
 obtain ⟨x0,y0,-,-,-,-⟩:=HCE.out W0 (Below.refl _ _);have HG:=Lib.hid (eqN39 (B:=B) s.globals t.globals hs.go ht.go hs.gc ht.gc W0 HX.out.leW HX.out.sd.globals HX.out.td.globals);have HC:Hid (∀W,Below W0.heap.size W0 W→Calls Tryz.prog 40 #[.slice hs.co s.chans.length hs.cc,.slice ht.co t.chans.length ht.cc,.func (.func 36) #[] #[.pointer (some ⟨w.heap.size+2,0,none⟩)]] W fun e w'=>e= .returned (.bool (allB s.chans t.chans))∧Below W.heap.size W w'):=Lib.hid fun W hb=>
  eqC40 (B:=B) s.chans t.chans hs.co ht.co hs.cc ht.cc _ W (HX.out.below hb).leW ((hb.block _ (lt_of_block HF.out)).trans HF.out) (HX.out.below hb).sd.chans (HX.out.below hb).td.chans
 have HP:Hid (∀W,Below W0.heap.size W0 W→Calls Tryz.prog 41 #[.slice hs.po s.procs.length hs.pc,.slice ht.po t.procs.length ht.pc,.func (.func 38) #[] #[]] W fun e w'=>e= .returned (.bool (allB s.procs t.procs))∧Below W.heap.size W w'):=Lib.hid fun W hb=>
  eqP41 (B:=B) s.procs t.procs hs.po ht.po hs.pc ht.pc W (HX.out.below hb).leW (HX.out.below hb).sd.procs (HX.out.below hb).td.procs
 have HBW:Hid (∀W,Below W0.heap.size W0 W→Below w.heap.size w W):=Lib.hid fun W hb=>(HX.out.below hb).a.bel
 clear HX;obtain ⟨bg,hbg⟩:∃q,decide (s.globals=t.globals)=q:=⟨_,rfl⟩;rw [hbg] at HG;have HBG:=Lib.hid hbg;clear hbg;go_wp2_with fail;refine HG.out.mono ?_;rintro e W1 ⟨rfl,hb1⟩;have HB1:=Lib.hid hb1;clear hb1 x0 y0 HG;cases bg
 · have HZ:Hid (sameB s t=false):=Lib.hid (sameB_no fun e=>of_decide_eq_false HBG.out (by rw [e]));go_wp2_with fail;go_ret;exact ⟨retB HZ.out.symm,HBW.out _ HB1.out⟩
 obtain ⟨-,-,x1,y1,-,-⟩:=HCE.out W1 HB1.out;have HC1:=Lib.hid (HC.out W1 HB1.out);obtain ⟨bc,hbc⟩:∃q,allB s.chans t.chans=q:=⟨_,rfl⟩;rw [hbc] at HC1;have HBC:=Lib.hid hbc;clear hbc;go_wp2_with fail;refine HC1.out.mono ?_;rintro e W2 ⟨rfl,hb2⟩;have HB2:=Lib.hid (HB1.out.trans (hb2.mono HB1.out.size));clear hb2 x1 y1 HC1 HC;cases bc
 · have HZ:Hid (sameB s t=false):=Lib.hid (sameB_no fun e=>by have:=HBC.out;rw [allB_yes (by rw [e])] at this;cases this);go_wp2_with fail;go_ret;exact ⟨retB HZ.out.symm,HBW.out _ HB2.out⟩
 obtain ⟨-,-,-,-,x2,y2⟩:=HCE.out W2 HB2.out;have HP1:=Lib.hid (HP.out W2 HB2.out);obtain ⟨bp,hbp⟩:∃q,allB s.procs t.procs=q:=⟨_,rfl⟩;rw [hbp] at HP1;have HBP:=Lib.hid hbp;clear hbp;go_wp2_with fail;refine HP1.out.mono ?_;rintro e W3 ⟨rfl,hb3⟩;have HB3:=Lib.hid (HB2.out.trans (hb3.mono HB2.out.size));clear hb3 x2 y2 HP1 HP;cases bp
 · have HZ:Hid (sameB s t=false):=Lib.hid (sameB_no fun e=>by have:=HBP.out;rw [allB_yes (by rw [e])] at this;cases this);go_wp2_with fail;go_ret;exact ⟨retB HZ.out.symm,HBW.out _ HB3.out⟩
 obtain ⟨x3,y3,x4,y4,x5,y5⟩:=HCN.out W3 HB3.out;by_cases k3:s.last=t.last;rotate_left
 · have d: (s.last == t.last)=false:=by rw [beq_eq_false_iff_ne];exact k3
   have HZ:Hid (sameB s t=false):=Lib.hid (sameB_no fun e=>k3 (by rw [e]));clear k3;go_wp2_with fail;go_ret;exact ⟨retB HZ.out.symm,HBW.out _ HB3.out⟩
 have d3: (s.last == t.last)=true:=by rw [beq_iff_eq];exact k3
 have H3:=Lib.hid k3;clear k3;by_cases k4:s.alone=t.alone;rotate_left
 · have d: (s.alone == t.alone)=false:=by rw [beq_eq_false_iff_ne];exact k4
   have HZ:Hid (sameB s t=false):=Lib.hid (sameB_no fun e=>k4 (by rw [e]));clear k4;go_wp2_with fail;go_ret;exact ⟨retB HZ.out.symm,HBW.out _ HB3.out⟩
 have d4: (s.alone == t.alone)=true:=by rw [beq_iff_eq];exact k4
 have H4:=Lib.hid k4;clear k4;by_cases k5:s.claim=t.claim;rotate_left
 · have d: (s.claim == t.claim)=false:=by rw [beq_eq_false_iff_ne];exact k5
   have HZ:Hid (sameB s t=false):=Lib.hid (sameB_no fun e=>k5 (by rw [e]));clear k5;go_wp2_with fail;go_ret;exact ⟨retB HZ.out.symm,HBW.out _ HB3.out⟩
 have d5: (s.claim == t.claim)=true:=by rw [beq_iff_eq];exact k5
 have HZ:Hid (sameB s t=true):=Lib.hid (sameB_yes (state_ext (of_decide_eq_true HBG.out) (@of_decide_eq_true _ (Classical.propDecidable _) HBC.out) (@of_decide_eq_true _ (Classical.propDecidable _) HBP.out) H3.out H4.out k5));clear k5;go_wp2_with fail;go_ret;exact ⟨retB HZ.out.symm,HBW.out _ HB3.out⟩
end Go.Proofs.YtnoibjahliafpaaGreatDoor
