/- A model that came in: no row of numbers is too long for a machine. -/
import Derived.Test.YthfldokfnjpkmaaGreatDoorM38
import Derived.Test.YthfldokfnjpkmaaGreatDoorM35
import Derived.Test.YthfldokfnjpkmaaGreatDoorM01
set_option linter.unusedVariables false
set_option linter.unusedSimpArgs false
namespace Go.Proofs.YthfldokfnjpkmaaGreatDoor
open Go.ChangeShapes Go.WideShapes Go.ChangeAt Go.RowKit
variable {H:Type} {enc:TypeId × Value→H} {W:World} {base:Nat} {sp:Nat→Bool} {hd:Bool} {fuel:Nat}
def SArgsB (m:ModelD):Prop:=∀p ∈ m.procs,∀l ∈ p.locs,∀t ∈ l.out,t.s.args.length≤17592186044416
theorem row_both {α:Type} {B:Nat} {o:Option Addr} {k:Nat} {R:Nat→Nat→α→Prop} {P:α→Prop} {l:List α} (h:Row B o k (fun g a x=>R g a x∧P x) l):Row B o k R l∧∀x ∈ l,P x:=by
 refine ⟨h.mono fun _ _ _ _ h=>h.1,fun x hx=> ?_⟩;obtain ⟨i,hi,rfl⟩:=List.mem_iff_getElem.1 hx;obtain ⟨g,off,-,-,h2⟩:=h.cell hi;exact h2.2
theorem opens_sliP {α:Type} {R:Nat→Nat→α→Prop} {P:α→Prop} {t e:TypeId} {kk bb:Nat} (ht:Tryz.prog.underlying t=some (.slice e)) (hk:Tryz.prog.cellsOf e=kk) (hk1:0 < kk) (hbb:Tryz.prog.bytesOf e=bb) (hb1:0 < bb) (he:Opens enc W base sp hd e (fun g a x=>R g a x∧P x)):
 Opens enc W base sp hd t (fun g a (l:List α)=>Sli W.heap.size W g a kk R l∧∀x ∈ l,P x):=by
 intro g off h;obtain ⟨l,o,c,h1,h2⟩:=opens_sli ht hk hk1 hbb hb1 he g off h;exact ⟨l,⟨o,c,h1,(row_both h2).1⟩,(row_both h2).2⟩
set_option maxRecDepth 100000 in
theorem opens_intsB:Opens enc W base sp hd 25 (fun g a (l:List Int)=>Sli W.heap.size W g a 1 (intAt W) l∧l.length≤17592186044416):=by
 rintro g off ⟨m,ds,y,hl,h,hw⟩;obtain ⟨o,n,c,hcs,hnb,-⟩:=open_rowS Tryz.underlying25 c_int.1 (by decide) c_int.2 h hw;obtain ⟨o',l,c',hcs',hr⟩:=open_sli Tryz.underlying25 c_int.1 (by decide) c_int.2 (by decide) (opens_int Tryz.underlying3) h hw;have hn:n=l.length:=by
  rw [hcs] at hcs';injection hcs' with e
  injection e
 subst hcs';have h2:reachBytes=140737488351232:=rfl;exact ⟨l,⟨o',c',hl 0 (by simp),hr⟩,by omega⟩
theorem opens_exprB:Opens enc W base sp hd 144 (fun g a x=>exprAt W.heap.size W g a x∧x.args.length≤17592186044416):=by
 intro g off h;have P:=open_parts Tryz.underlying144 h;obtain ⟨x0,h0⟩:=opens_int Tryz.underlying3 _ _ (P 0 _ rfl);obtain ⟨x1,h1⟩:=opens_int Tryz.underlying2 _ _ (P 1 _ rfl);obtain ⟨x2,h2⟩:=opens_int Tryz.underlying3 _ _ (P 2 _ rfl);obtain ⟨x3,h3⟩:=opens_int Tryz.underlying3 _ _ (P 3 _ rfl);obtain ⟨x4,h4⟩:=opens_int Tryz.underlying3 _ _ (P 4 _ rfl);obtain ⟨x5,h5⟩:=opens_var _ _ (P 5 _ rfl);obtain ⟨x6,h6,hb⟩:=opens_intsB _ _ (P 6 _ rfl);obtain ⟨x7,h7⟩:=opens_ints _ _ (P 7 _ rfl);exact ⟨⟨x0,x1,x2,x3,x4,x5,x6,x7⟩,⟨h0,h1,h2,h3,h4,h5,h6,h7⟩,hb⟩
theorem opens_stmtB:Opens enc W base sp hd 65 (fun g a s=>stmtAt W.heap.size W g a s∧s.args.length≤17592186044416):=by
 intro g off h;have P:=open_parts Tryz.underlying65 h;obtain ⟨x0,h0⟩:=opens_int Tryz.underlying3 _ _ (P 0 _ rfl);obtain ⟨x1,h1⟩:=opens_int Tryz.underlying3 _ _ (P 1 _ rfl);obtain ⟨x2,h2⟩:=opens_int Tryz.underlying3 _ _ (P 2 _ rfl);obtain ⟨x3,h3⟩:=opens_int Tryz.underlying3 _ _ (P 3 _ rfl);obtain ⟨x4,h4,hb⟩:=opens_intsB _ _ (P 4 _ rfl);obtain ⟨x5,h5⟩:=opens_ints _ _ (P 5 _ rfl);obtain ⟨x6,h6⟩:=opens_str Tryz.underlying9 _ _ (P 6 _ rfl);exact ⟨⟨x0,x1,x2,x3,x4,x5,x6⟩,⟨h0,h1,h2,h3,h4,h5,h6⟩,hb⟩
def TrB (t:TransD):Prop:=t.s.args.length≤17592186044416
theorem opens_transB:Opens enc W base sp hd 67 (fun g a t=>transAt W.heap.size W g a t∧TrB t):=by
 intro g off h;have P:=open_parts Tryz.underlying67 h;obtain ⟨x0,h0,hb⟩:=opens_stmtB _ _ (P 0 _ rfl);obtain ⟨x1,h1⟩:=opens_int Tryz.underlying3 _ _ (P 1 _ rfl);obtain ⟨x2,h2⟩:=opens_int Tryz.underlying3 _ _ (P 2 _ rfl);exact ⟨⟨x0,x1,x2⟩,⟨h0,h1,h2⟩,hb⟩
theorem opens_transsB:Opens enc W base sp hd 62 (fun g a (l:List TransD)=>Sli W.heap.size W g a 9 (transAt W.heap.size W) l∧∀t ∈ l,TrB t):=opens_sliP Tryz.underlying62 (by kernel_rfl) (by decide) (bb:=112) (by kernel_rfl) (by decide) opens_transB
def LcB (l:LocD):Prop:=∀t ∈ l.out,TrB t
theorem opens_locB:Opens enc W base sp hd 70 (fun g a l=>locAt W.heap.size W g a l∧LcB l):=by
 intro g off h;have P:=open_parts Tryz.underlying70 h;obtain ⟨x0,h0,hb⟩:=opens_transsB _ _ (P 0 _ rfl);obtain ⟨x1,h1⟩:=opens_escs _ _ (P 1 _ rfl);obtain ⟨x2,h2⟩:=opens_bool Tryz.underlying4 _ _ (P 2 _ rfl);obtain ⟨x3,h3⟩:=opens_bool Tryz.underlying4 _ _ (P 3 _ rfl);obtain ⟨x4,h4⟩:=opens_bool Tryz.underlying4 _ _ (P 4 _ rfl);obtain ⟨x5,h5⟩:=opens_bool Tryz.underlying4 _ _ (P 5 _ rfl);obtain ⟨x6,h6⟩:=opens_bool Tryz.underlying4 _ _ (P 6 _ rfl);exact ⟨⟨x0,x1,x2,x3,x4,x5,x6⟩,⟨h0,h1,h2,h3,h4,h5,h6⟩,hb⟩
theorem opens_locsB:Opens enc W base sp hd 71 (fun g a (l:List LocD)=>Sli W.heap.size W g a 7 (locAt W.heap.size W) l∧∀x ∈ l,LcB x):=opens_sliP Tryz.underlying71 (by kernel_rfl) (by decide) (bb:=56) (by kernel_rfl) (by decide) opens_locB
def PrB (p:ProcD):Prop:=∀l ∈ p.locs,LcB l
set_option maxRecDepth 100000 in
theorem opens_procB:Opens enc W base sp hd 73 (fun g a p=>procAt W.heap.size W g a p∧PrB p):=by
 intro g off h;have P:=open_parts Tryz.underlying73 h;obtain ⟨x0,h0⟩:=opens_str Tryz.underlying9 _ _ (P 0 _ rfl);obtain ⟨x1,h1⟩:=opens_int Tryz.underlying3 _ _ (P 1 _ rfl);obtain ⟨x2,h2⟩:=opens_tys _ _ (P 2 _ rfl);obtain ⟨x3,h3⟩:=opens_int64s _ _ (P 3 _ rfl);obtain ⟨x4,h4,hb⟩:=opens_locsB _ _ (P 4 _ rfl);obtain ⟨x5,h5⟩:=opens_int Tryz.underlying3 _ _ (P 5 _ rfl);obtain ⟨x6,h6⟩:=opens_int Tryz.underlying3 _ _ (P 6 _ rfl);obtain ⟨x7,h7⟩:=opens_int Tryz.underlying3 _ _ (P 7 _ rfl);obtain ⟨x8,h8⟩:=opens_int Tryz.underlying3 _ _ (P 8 _ rfl);obtain ⟨x9,h9⟩:=opens_int Tryz.underlying3 _ _ (P 9 _ rfl);exact ⟨⟨x0,x1,x2,x3,x4,x5,x6,x7,x8,x9⟩,⟨h0,h1,h2,h3,h4,h5,h6,h7,h8,h9⟩,hb⟩
set_option maxRecDepth 100000 in
theorem open_modelB {v:Value} {r:Reach} {b0:Nat} {d:DataW H} {p:List MemPlace} (hv:Value.okWide Tryz.prog W r b0 29 v) (h:DataW.Trod enc Tryz.prog W base sp hd 29 v d p) (hw:Fits 29 d):∃h m,v=mV h m∧MD W.heap.size W h m∧ArgsB m∧SArgsB m:=by
 obtain ⟨cs,rfl,hsz⟩:=okWide_struct Tryz.underlying29 hv;obtain ⟨l⟩:=cs;have hC:Tryz.prog.cellsOf 29=7:=by kernel_rfl
 have hl:l.length=7:=hsz.trans hC;obtain ⟨fu,hf⟩:=h;have P:=open_fits Tryz.underlying29 hf hw;obtain ⟨n0,y0,p0,w0⟩:=P 0 _ rfl;obtain ⟨n1,y1,p1,w1⟩:=P 1 _ rfl;obtain ⟨n2,y2,p2,w2⟩:=P 2 _ rfl;obtain ⟨n3,y3,p3,w3⟩:=P 3 _ rfl;obtain ⟨n4,y4,p4,w4⟩:=P 4 _ rfl;obtain ⟨n5,y5,p5,w5⟩:=P 5 _ rfl;obtain ⟨n6,y6,p6,w6⟩:=P 6 _ rfl;clear P;obtain ⟨o0,l0,c0,e0,r0⟩:=open_sli Tryz.underlying22 (kk:=2) (by kernel_rfl) (by decide) (bb:=16) (by kernel_rfl) (by decide) opens_ty p0 w0;obtain ⟨o1,l1,c1,e1,r1⟩:=open_sli Tryz.underlying23 c_int64.1 (by decide) c_int64.2 (by decide) (opens_int Tryz.underlying2) p1 w1;obtain ⟨o2,l2,c2,e2,r2⟩:=open_sli Tryz.underlying24 (kk:=2) (by kernel_rfl) (by decide) (bb:=32) (by kernel_rfl) (by decide) opens_shape p2 w2;obtain ⟨o3,l3,c3,e3,r3⟩:=open_sli Tryz.underlying25 c_int.1 (by decide) c_int.2 (by decide) (opens_int Tryz.underlying3) p3 w3;obtain ⟨o4,l4,c4,e4,r4⟩:=open_sli Tryz.underlying26 (kk:=10) (by kernel_rfl) (by decide) (bb:=136) (by kernel_rfl) (by decide) opens_procB p4 w4;obtain ⟨v5,e5,_,_⟩:=DataW.trod_int Tryz.underlying3 p5;obtain ⟨o6,l6,c6,e6,r6⟩:=open_sli Tryz.underlying27 (kk:=12) (by kernel_rfl) (by decide) (bb:=144) (by kernel_rfl) (by decide) opens_exprB p6 w6;have f0:=(one_cs (l:=l) (o:=0) (by omega) (by kernel_rfl)).symm.trans e0;have f1:=(one_cs (l:=l) (o:=1) (by omega) (by kernel_rfl)).symm.trans e1;have f2:=(one_cs (l:=l) (o:=2) (by omega) (by kernel_rfl)).symm.trans e2;have f3:=(one_cs (l:=l) (o:=3) (by omega) (by kernel_rfl)).symm.trans e3;have f4:=(one_cs (l:=l) (o:=4) (by omega) (by kernel_rfl)).symm.trans e4;have f5:=(one_cs (l:=l) (o:=5) (by omega) (by kernel_rfl)).symm.trans e5;have f6:=(one_cs (l:=l) (o:=6) (by omega) (by kernel_rfl)).symm.trans e6;clear e0 e1 e2 e3 e4 e5 e6 p0 p1 p2 p3 p4 p5 p6 w0 w1 w2 w3 w4 w5 w6 hf hw hsz hv;obtain ⟨a0,a1,a2,a3,a4,a5,a6,rfl⟩:=seven_of hl;simp only [List.getElem_cons_zero,List.getElem_cons_succ,List.cons.injEq,and_true] at f0 f1 f2 f3 f4 f5 f6;subst f0 f1 f2 f3 f4 f5 f6;exact ⟨⟨o0,c0,o1,c1,o2,c2,o3,c3,o4,c4,o6,c6⟩,⟨l0,l1,l2,l3,l4,v5,l6⟩,rfl,⟨r0,r1,r2,r3,(row_both r4).1,(row_both r6).1⟩,fun x hx=>(row_both r6).2 x hx,fun p hp l hl t ht=>(row_both r4).2 p hp l hl t ht⟩
end Go.Proofs.YthfldokfnjpkmaaGreatDoor
namespace Go.Proofs.YthfldokfnjpkmaaGreatDoor
open Go.ChangeShapes Go.WideShapes Go.ChangeAt Go.RowKit
def allocs:World→List Obj→World
 | w,[]=>w
 | w,o :: r=>allocs (w.alloc o) r
theorem allocs_below:∀ (l:List Obj) (w:World) (B:Nat),B≤w.heap.size→Below B w (allocs w l)
 | [],w,B,h=>Below.refl _ _
 | o :: r,w,B,h=>((Below.refl B w).alloc h o).trans (allocs_below r (w.alloc o) B (by simp;omega))
theorem allocs_size:∀ (l:List Obj) (w:World),(allocs w l).heap.size=w.heap.size+l.length
 | [],w=>by simp [allocs]
 | o :: r,w=>by rw [allocs,allocs_size r (w.alloc o)];simp;omega
theorem allocs_at:∀ {l:List Obj} {w:World} {k:Nat} {o:Obj},l[k]? =some o→ (allocs w l).heap[w.heap.size+k]? =some o
 | [],w,k,o,h=>by simp at h
 | x :: r,w,0,o,h=>by
   simp only [List.getElem?_cons_zero,Option.some.injEq] at h;subst h;refine ((allocs_below r (w.alloc x) (w.alloc x).heap.size (Nat.le_refl _)).block _ (by simp)).trans ?_;exact heap_alloc_new w x
 | x :: r,w,k+1,o,h=>by
   simp only [List.getElem?_cons_succ] at h;have h2:=allocs_at (w:=w.alloc x) h;rw [World.size_alloc] at h2;rw [show w.heap.size+ (k+1)=w.heap.size+1+k from by omega];exact h2
theorem allocs_lt {l:List Obj} {w:World} {k:Nat} {o:Obj} (h:l[k]? =some o):w.heap.size+k < (allocs w l).heap.size:=by
 rw [allocs_size];have:=(List.getElem?_eq_some_iff.1 h).1;omega
theorem row_one1 {α:Type} {B:Nat} {g:Nat} {k:Nat} {R:Nat→Nat→α→Prop} {x:α} (hg:g < B) (h:R g 0 x):Row B (some ⟨g,0,none⟩) k R [x]:=
 ⟨by simp,.inr ⟨g,0,rfl,hg,fun i hi=>by
   obtain rfl:i=0:=by simp at hi;omega
   simpa using h⟩⟩
end Go.Proofs.YthfldokfnjpkmaaGreatDoor
