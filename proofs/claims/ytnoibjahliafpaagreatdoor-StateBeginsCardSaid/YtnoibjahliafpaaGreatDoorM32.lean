/- A model that came in, opened. -/
import Derived.Test.YtnoibjahliafpaaGreatDoorM05
import Derived.SizedLaws
import Derived.OpenShut
import Derived.ChangeArms
import Derived.ChangeMaps5
import Derived.Test.YtnoibjahliafpaaGreatDoorM24
import Derived.Test.YtnoibjahliafpaaGreatDoorM28
import Derived.Deep.Cut
set_option linter.unusedVariables false
set_option linter.unusedSimpArgs false
namespace Go.Proofs.YtnoibjahliafpaaGreatDoor
open Go.ChangeShapes Go.WideShapes Go.ChangeAt Go.RowKit
set_option maxRecDepth 100000
theorem list_of {α:Type} (p:Nat→α→Prop):∀n,(∀i,i < n→∃m,p i m)→∃l:List α,l.length=n∧∀i (h:i < l.length),p i l[i]
 | 0,_=>⟨[],rfl,fun i h=>by simp at h⟩
 | n+1,h=>by
   obtain ⟨l,hl,hp⟩:=list_of p n fun i hi=>h i (by omega)
   obtain ⟨m,hm⟩:=h n (by omega);refine ⟨l ++ [m],by simp [hl],fun i hi=> ?_⟩;by_cases e:i < l.length
   · rw [List.getElem_append_left e];exact hp i e
   · obtain rfl:i=l.length:=by simp at hi;omega
     rw [List.getElem_append_right (Nat.le_refl _)];simpa [hl] using hm
theorem add_off (b off k:Nat): (⟨b,off,none⟩:Addr).add k= ⟨b,off+k,none⟩:=by
 unfold Addr.add;split
 · rename_i h
   subst h;rfl
 · rfl
theorem weightsAll_mem {H:Type} {P:Program} {e:TypeId}:∀ {l:List (DataW H)} {d:DataW H},d ∈ l→∀k ∈ DataW.weights P e d,k ∈ DataW.weightsAll P e l
 | x :: l,d,hd,k,hk=>by
   simp only [DataW.weightsAll,List.mem_append];rcases List.mem_cons.1 hd with rfl | hd
   · exact .inl hk
   · exact .inr (weightsAll_mem hd k hk)
def Fits {H:Type} (t:TypeId) (d:DataW H):Prop:=∀k ∈ DataW.weights Tryz.prog t d,k≤reachBytes
def Lies (W:World) (g off:Nat) (ds:List Value):Prop:=∀j,j < ds.length→W.cell? ⟨g,off+j,none⟩=ds[j]?
theorem Lies.part {W:World} {g off:Nat} {ds:List Value} (h:Lies W g off ds) (o n:Nat):Lies W g (off+o) ((ds.drop o).take n):=by
 intro j hj;rw [List.length_take,List.length_drop] at hj;rw [List.getElem?_take_of_lt (by omega),List.getElem?_drop,Nat.add_assoc];exact h _ (by omega)
variable {H:Type} {enc:TypeId × Value→H} {W:World} {base:Nat} {sp:Nat→Bool} {hd:Bool} {fuel:Nat}
theorem open_rowS {t e:TypeId} {kk bb:Nat} {cs:List Value} {x:DataW H × List MemPlace} (ht:Tryz.prog.underlying t=some (.slice e)) (hk:Tryz.prog.cellsOf e=kk) (hk1:0 < kk) (hbb:Tryz.prog.bytesOf e=bb) (h:DataW.trod enc Tryz.prog W base sp hd fuel t cs=some x) (hw:Fits t x.1):
 ∃o n c,cs= [.slice o n c]∧n*bb≤reachBytes∧ (n=0∨∃g off,o=some ⟨g,off,none⟩∧g < W.heap.size∧∀i,i < n→∃ (ds:List Value) (y:DataW H × List MemPlace) (m:Nat),ds.length=kk∧ (∀j,j < kk→W.cell? ⟨g,off+i*kk+j,none⟩=ds[j]?)∧DataW.trod enc Tryz.prog W base sp hd m e ds=some y∧Fits e y.1):=by
 rcases DataW.trod_slice ht h with ⟨hcs,_⟩ | ⟨a,l,c,elems,rest,n',_,hcs,hy,hb,hl,hm,hel,hcell,_⟩
 · exact ⟨none,0,0,hcs,by simp,.inl rfl⟩
 · have hbk:l*bb≤reachBytes:=by
    have h1: ((elems.map (·.1)).length+ (rest.map (·.1)).length)*Tryz.prog.bytesOf e≤reachBytes:=hw _ (by
     rw [hy];simp only [DataW.weights,ht];exact List.mem_cons_self ..)
    rw [hbb,List.length_map,hel] at h1;exact Nat.le_trans (Nat.mul_le_mul_right _ (Nat.le_add_right _ _)) h1
   refine ⟨some a,l,c,hcs,hbk, ?_⟩;by_cases hl0:l=0
   · exact .inl hl0
   · rw [hk] at hcell;obtain ⟨ab,off,spot⟩:=a;have hspot:spot=none:=by
      have hc:=hcell 0 (by omega);rw [List.getElem?_eq_getElem (by omega)] at hc;obtain ⟨cs,hcs,_⟩:=Option.bind_eq_some_iff.1 hc;obtain ⟨_,hl4,h0⟩:=World.cells?_some hcs;have h0:=h0 0 (by omega);rw [List.getElem?_eq_getElem (by omega)] at h0;have h1:=World.cell?_spot h0;simpa [Addr.add] using h1
     subst hspot;have hall:∀i,i < l→∃ (ds:List Value) (y:DataW H × List MemPlace) (m:Nat),ds.length=kk∧ (∀j,j < kk→W.cell? ⟨ab,off+i*kk+j,none⟩=ds[j]?)∧DataW.trod enc Tryz.prog W base sp hd m e ds=some y∧Fits e y.1:=fun i hi=>by
      have hc:=hcell i hi;rw [List.getElem?_eq_getElem (by omega),add_off] at hc;obtain ⟨cs,hcs,htr⟩:=Option.bind_eq_some_iff.1 hc;obtain ⟨_,hl4,hcc⟩:=World.cells?_some hcs;refine ⟨cs,_,_,hl4,fun j hj=> ?_,htr,fun k hk=>hw k ?_⟩
      · have:=hcc j hj;rw [add_off] at this;exact this
      · rw [hy];simp only [DataW.weights,ht];refine List.mem_cons_of_mem _ (List.mem_append_left _ (weightsAll_mem ?_ k hk));exact List.mem_map.2 ⟨_,List.getElem_mem _,rfl⟩
     obtain ⟨ds,y,m,h1,h2,_⟩:=hall 0 (by omega);have h3:=h2 0 hk1;rw [List.getElem?_eq_getElem (by omega)] at h3;exact .inr ⟨ab,off,rfl,World.block_lt_of_cell? W _ h3,hall⟩
def Part (enc:TypeId × Value→H) (W:World) (base:Nat) (sp:Nat→Bool) (hd:Bool) (e:TypeId) (g off:Nat):Prop:=
 ∃m ds y,Lies W g off ds∧DataW.trod enc Tryz.prog W base sp hd m e ds=some y∧Fits e y.1
def Opens {α:Type} (enc:TypeId × Value→H) (W:World) (base:Nat) (sp:Nat→Bool) (hd:Bool) (e:TypeId) (R:Nat→Nat→α→Prop):Prop:=∀g off,Part enc W base sp hd e g off→∃x,R g off x
theorem open_fits {t:TypeId} {fs:Array Field} {ds:List Value} {m:Nat} {y:DataW H × List MemPlace} (hs:Tryz.prog.underlying t=some (.struct fs)) (h:DataW.trod enc Tryz.prog W base sp hd m t ds=some y) (hw:Fits t y.1):
 ∀ (j:Nat) (f:Field),fs[j]? =some f→∃n y',DataW.trod enc Tryz.prog W base sp hd n f.type ((ds.drop f.offset).take (Tryz.prog.cellsOf f.type))=some y'∧Fits f.type y'.1:=by
 obtain ⟨xs,n,_,rfl,hl,hlen,hf⟩:=DataW.trod_struct hs h;intro j f hj;have hjl:j < fs.size:=(Array.getElem?_eq_some_iff.1 hj).1;have hx:xs[j]? =some (xs[j]'(by omega)):=List.getElem?_eq_getElem (by omega);refine ⟨n,xs[j]'(by omega),(hf j f hj).trans hx,fun k hk=>hw k ?_⟩;simp only [DataW.weights,hs];refine DataW.weights_mem_each (j:=j) (t:=f.type) (d:=(xs[j]'(by omega)).1) ?_ ?_ k hk
 · rw [List.getElem?_map,Array.getElem?_toList,hj];rfl
 · rw [List.getElem?_map,hx];rfl
theorem open_parts {t:TypeId} {fs:Array Field} {g off:Nat} (hs:Tryz.prog.underlying t=some (.struct fs)) (h:Part enc W base sp hd t g off):
 ∀ (j:Nat) (f:Field),fs[j]? =some f→Part enc W base sp hd f.type g (off+f.offset):=by
 obtain ⟨m,ds,y,hl,h1,hw⟩:=h;intro j f hj;obtain ⟨n,y',h2,h3⟩:=open_fits hs h1 hw j f hj;exact ⟨n,_,y',hl.part _ _,h2,h3⟩
theorem opens_int {t:TypeId} (ht:Tryz.prog.underlying t=some (.int .i64)):Opens enc W base sp hd t (intAt W):=by
 rintro g off ⟨m,ds,y,hl,h,_⟩;obtain ⟨v,rfl,_,_⟩:=DataW.trod_int ht h;exact ⟨v,hl 0 (by simp)⟩
theorem opens_bool {t:TypeId} (ht:Tryz.prog.underlying t=some .bool):Opens enc W base sp hd t (boolAt W):=by
 rintro g off ⟨m,ds,y,hl,h,_⟩;obtain ⟨v,rfl,_⟩:=DataW.trod_bool ht h;exact ⟨v,hl 0 (by simp)⟩
theorem opens_str {t:TypeId} (ht:Tryz.prog.underlying t=some .string):Opens enc W base sp hd t (strAt W):=by
 rintro g off ⟨m,ds,y,hl,h,_⟩;obtain ⟨v,rfl,_⟩:=DataW.trod_string ht h;exact ⟨v,hl 0 (by simp)⟩
theorem open_sli {α:Type} {R:Nat→Nat→α→Prop} {t e:TypeId} {kk bb:Nat} {cs:List Value} {x:DataW H × List MemPlace} (ht:Tryz.prog.underlying t=some (.slice e)) (hk:Tryz.prog.cellsOf e=kk) (hk1:0 < kk) (hbb:Tryz.prog.bytesOf e=bb) (hb1:0 < bb) (he:Opens enc W base sp hd e R)
 (h:DataW.trod enc Tryz.prog W base sp hd fuel t cs=some x) (hw:Fits t x.1):∃o l c,cs= [.slice o (List.length l) c]∧Row W.heap.size o kk R l:=by
 obtain ⟨o,n,c,rfl,hn,hr⟩:=open_rowS ht hk hk1 hbb h hw;have hn2:n≤140737488355328:=by
  have h1:n*1≤n*bb:=Nat.mul_le_mul_left _ hb1;have h2:reachBytes=140737488351232:=rfl;omega
 rcases hr with h0 | ⟨g,off,ho,hg,hc⟩
 · subst h0;exact ⟨o,[],c,rfl,by simp,.inl rfl⟩
 · obtain ⟨l,hl,hp⟩:=list_of (fun i (v:α)=>R g (off+i*kk) v) n fun i hi=>by
    obtain ⟨ds,y,m,h1,h2,h3,h4⟩:=hc i hi;exact he _ _ ⟨m,ds,y,fun j hj=>h2 j (by omega),h3,h4⟩
   subst hl;exact ⟨o,l,c,rfl,hn2,.inr ⟨g,off,ho,hg,hp⟩⟩
theorem opens_sli {α:Type} {R:Nat→Nat→α→Prop} {t e:TypeId} {kk bb:Nat} (ht:Tryz.prog.underlying t=some (.slice e)) (hk:Tryz.prog.cellsOf e=kk) (hk1:0 < kk) (hbb:Tryz.prog.bytesOf e=bb) (hb1:0 < bb) (he:Opens enc W base sp hd e R):
 Opens enc W base sp hd t (fun g a (l:List α)=>Sli W.heap.size W g a kk R l):=by
 rintro g off ⟨m,ds,y,hl,h,hw⟩;obtain ⟨o,l,c,rfl,hr⟩:=open_sli ht hk hk1 hbb hb1 he h hw;exact ⟨l,o,c,hl 0 (by simp),hr⟩
theorem c_int:Tryz.prog.cellsOf 3=1∧Tryz.prog.bytesOf 3=8:=⟨by kernel_rfl,by kernel_rfl⟩
theorem c_int64:Tryz.prog.cellsOf 2=1∧Tryz.prog.bytesOf 2=8:=⟨by kernel_rfl,by kernel_rfl⟩
theorem opens_ints:Opens enc W base sp hd 25 (fun g a l=>Sli W.heap.size W g a 1 (intAt W) l):=opens_sli Tryz.underlying25 c_int.1 (by decide) c_int.2 (by decide) (opens_int Tryz.underlying3)
theorem opens_int64s:Opens enc W base sp hd 23 (fun g a l=>Sli W.heap.size W g a 1 (intAt W) l):=opens_sli Tryz.underlying23 c_int64.1 (by decide) c_int64.2 (by decide) (opens_int Tryz.underlying2)
theorem opens_ty:Opens enc W base sp hd 74 (tyAt W):=by
 intro g off h;have P:=open_parts Tryz.underlying74 h;obtain ⟨x0,h0⟩:=opens_int Tryz.underlying3 _ _ (P 0 _ rfl);obtain ⟨x1,h1⟩:=opens_bool Tryz.underlying4 _ _ (P 1 _ rfl);exact ⟨(x0,x1),h0,h1⟩
theorem opens_tys:Opens enc W base sp hd 22 (fun g a l=>Sli W.heap.size W g a 2 (tyAt W) l):=opens_sli Tryz.underlying22 (by kernel_rfl) (by decide) (bb:=16) (by kernel_rfl) (by decide) opens_ty
theorem opens_dim:Opens enc W base sp hd 172 (dimAt W):=by
 intro g off h;have P:=open_parts Tryz.underlying172 h;obtain ⟨x0,h0⟩:=opens_int Tryz.underlying3 _ _ (P 0 _ rfl);obtain ⟨x1,h1⟩:=opens_int Tryz.underlying3 _ _ (P 1 _ rfl);obtain ⟨x2,h2⟩:=opens_int Tryz.underlying3 _ _ (P 2 _ rfl);exact ⟨⟨x0,x1,x2⟩,h0,h1,h2⟩
theorem opens_dims:Opens enc W base sp hd 143 (fun g a l=>Sli W.heap.size W g a 3 (dimAt W) l):=opens_sli Tryz.underlying143 (by kernel_rfl) (by decide) (bb:=24) (by kernel_rfl) (by decide) opens_dim
theorem opens_var:Opens enc W base sp hd 145 (varAt W.heap.size W):=by
 intro g off h;have P:=open_parts Tryz.underlying145 h;obtain ⟨x0,h0⟩:=opens_int Tryz.underlying3 _ _ (P 0 _ rfl);obtain ⟨x1,h1⟩:=opens_int Tryz.underlying3 _ _ (P 1 _ rfl);obtain ⟨x2,h2⟩:=opens_int Tryz.underlying3 _ _ (P 2 _ rfl);obtain ⟨x3,h3⟩:=opens_int Tryz.underlying3 _ _ (P 3 _ rfl);obtain ⟨x4,h4⟩:=opens_dims _ _ (P 4 _ rfl);exact ⟨⟨x0,x1,x2,x3,x4⟩,h0,h1,h2,h3,h4⟩
theorem opens_expr:Opens enc W base sp hd 147 (exprAt W.heap.size W):=by
 intro g off h;have P:=open_parts Tryz.underlying147 h;obtain ⟨x0,h0⟩:=opens_int Tryz.underlying3 _ _ (P 0 _ rfl);obtain ⟨x1,h1⟩:=opens_int Tryz.underlying2 _ _ (P 1 _ rfl);obtain ⟨x2,h2⟩:=opens_int Tryz.underlying3 _ _ (P 2 _ rfl);obtain ⟨x3,h3⟩:=opens_int Tryz.underlying3 _ _ (P 3 _ rfl);obtain ⟨x4,h4⟩:=opens_int Tryz.underlying3 _ _ (P 4 _ rfl);obtain ⟨x5,h5⟩:=opens_var _ _ (P 5 _ rfl);obtain ⟨x6,h6⟩:=opens_ints _ _ (P 6 _ rfl);obtain ⟨x7,h7⟩:=opens_ints _ _ (P 7 _ rfl);exact ⟨⟨x0,x1,x2,x3,x4,x5,x6,x7⟩,h0,h1,h2,h3,h4,h5,h6,h7⟩
theorem opens_stmt:Opens enc W base sp hd 150 (stmtAt W.heap.size W):=by
 intro g off h;have P:=open_parts Tryz.underlying150 h;obtain ⟨x0,h0⟩:=opens_int Tryz.underlying3 _ _ (P 0 _ rfl);obtain ⟨x1,h1⟩:=opens_int Tryz.underlying3 _ _ (P 1 _ rfl);obtain ⟨x2,h2⟩:=opens_int Tryz.underlying3 _ _ (P 2 _ rfl);obtain ⟨x3,h3⟩:=opens_int Tryz.underlying3 _ _ (P 3 _ rfl);obtain ⟨x4,h4⟩:=opens_ints _ _ (P 4 _ rfl);obtain ⟨x5,h5⟩:=opens_ints _ _ (P 5 _ rfl);obtain ⟨x6,h6⟩:=opens_str Tryz.underlying9 _ _ (P 6 _ rfl);exact ⟨⟨x0,x1,x2,x3,x4,x5,x6⟩,h0,h1,h2,h3,h4,h5,h6⟩
theorem opens_trans:Opens enc W base sp hd 152 (transAt W.heap.size W):=by
 intro g off h;have P:=open_parts Tryz.underlying152 h;obtain ⟨x0,h0⟩:=opens_stmt _ _ (P 0 _ rfl);obtain ⟨x1,h1⟩:=opens_int Tryz.underlying3 _ _ (P 1 _ rfl);obtain ⟨x2,h2⟩:=opens_int Tryz.underlying3 _ _ (P 2 _ rfl);exact ⟨⟨x0,x1,x2⟩,h0,h1,h2⟩
theorem opens_transs:Opens enc W base sp hd 103 (fun g a l=>escAt W.heap.size W g a l):=opens_sli Tryz.underlying103 (by kernel_rfl) (by decide) (bb:=112) (by kernel_rfl) (by decide) opens_trans
theorem opens_escs:Opens enc W base sp hd 104 (fun g a l=>Sli W.heap.size W g a 1 (escAt W.heap.size W) l):=opens_sli Tryz.underlying104 (by kernel_rfl) (by decide) (bb:=24) (by kernel_rfl) (by decide) opens_transs
theorem opens_loc:Opens enc W base sp hd 106 (locAt W.heap.size W):=by
 intro g off h;have P:=open_parts Tryz.underlying106 h;obtain ⟨x0,h0⟩:=opens_transs _ _ (P 0 _ rfl);obtain ⟨x1,h1⟩:=opens_escs _ _ (P 1 _ rfl);obtain ⟨x2,h2⟩:=opens_bool Tryz.underlying4 _ _ (P 2 _ rfl);obtain ⟨x3,h3⟩:=opens_bool Tryz.underlying4 _ _ (P 3 _ rfl);obtain ⟨x4,h4⟩:=opens_bool Tryz.underlying4 _ _ (P 4 _ rfl);obtain ⟨x5,h5⟩:=opens_bool Tryz.underlying4 _ _ (P 5 _ rfl);obtain ⟨x6,h6⟩:=opens_bool Tryz.underlying4 _ _ (P 6 _ rfl);exact ⟨⟨x0,x1,x2,x3,x4,x5,x6⟩,h0,h1,h2,h3,h4,h5,h6⟩
theorem opens_locs:Opens enc W base sp hd 67 (fun g a l=>Sli W.heap.size W g a 7 (locAt W.heap.size W) l):=opens_sli Tryz.underlying67 (by kernel_rfl) (by decide) (bb:=56) (by kernel_rfl) (by decide) opens_loc
theorem opens_proc:Opens enc W base sp hd 69 (procAt W.heap.size W):=by
 intro g off h;have P:=open_parts Tryz.underlying69 h;obtain ⟨x0,h0⟩:=opens_str Tryz.underlying9 _ _ (P 0 _ rfl);obtain ⟨x1,h1⟩:=opens_int Tryz.underlying3 _ _ (P 1 _ rfl);obtain ⟨x2,h2⟩:=opens_tys _ _ (P 2 _ rfl);obtain ⟨x3,h3⟩:=opens_int64s _ _ (P 3 _ rfl);obtain ⟨x4,h4⟩:=opens_locs _ _ (P 4 _ rfl);obtain ⟨x5,h5⟩:=opens_int Tryz.underlying3 _ _ (P 5 _ rfl);obtain ⟨x6,h6⟩:=opens_int Tryz.underlying3 _ _ (P 6 _ rfl);obtain ⟨x7,h7⟩:=opens_int Tryz.underlying3 _ _ (P 7 _ rfl);obtain ⟨x8,h8⟩:=opens_int Tryz.underlying3 _ _ (P 8 _ rfl);obtain ⟨x9,h9⟩:=opens_int Tryz.underlying3 _ _ (P 9 _ rfl);exact ⟨⟨x0,x1,x2,x3,x4,x5,x6,x7,x8,x9⟩,h0,h1,h2,h3,h4,h5,h6,h7,h8,h9⟩
theorem opens_shape:Opens enc W base sp hd 102 (shapeAt W.heap.size W):=by
 intro g off h;have P:=open_parts Tryz.underlying102 h;obtain ⟨x0,h0⟩:=opens_int Tryz.underlying3 _ _ (P 0 _ rfl);obtain ⟨x1,h1⟩:=opens_tys _ _ (P 1 _ rfl);exact ⟨⟨x0,x1⟩,h0,h1⟩
theorem one_cs {l:List Value} {o n:Nat} (h:o < l.length) (hn:n=1): (l.drop o).take n= [l[o]]:=by
 subst hn;rw [List.drop_eq_getElem_cons h];rfl
theorem seven_of {α:Type} {l:List α} (h:l.length=7):∃a b c d e f g,l= [a,b,c,d,e,f,g]:=by
 match l,h with
 | [a,b,c,d,e,f,g],_=>exact ⟨a,b,c,d,e,f,g,rfl⟩
theorem open_model {v:Value} {r:Reach} {b0:Nat} {d:DataW H} {p:List MemPlace} (hv:Value.okWide Tryz.prog W r b0 29 v) (h:DataW.Trod enc Tryz.prog W base sp hd 29 v d p) (hw:Fits 29 d):∃h m,v=mV h m∧MD W.heap.size W h m:=by
 obtain ⟨cs,rfl,hsz⟩:=okWide_struct Tryz.underlying29 hv;obtain ⟨l⟩:=cs;have hC:Tryz.prog.cellsOf 29=7:=by kernel_rfl
 have hl:l.length=7:=hsz.trans hC;obtain ⟨fu,hf⟩:=h;have P:=open_fits Tryz.underlying29 hf hw;obtain ⟨n0,y0,p0,w0⟩:=P 0 _ rfl;obtain ⟨n1,y1,p1,w1⟩:=P 1 _ rfl;obtain ⟨n2,y2,p2,w2⟩:=P 2 _ rfl;obtain ⟨n3,y3,p3,w3⟩:=P 3 _ rfl;obtain ⟨n4,y4,p4,w4⟩:=P 4 _ rfl;obtain ⟨n5,y5,p5,w5⟩:=P 5 _ rfl;obtain ⟨n6,y6,p6,w6⟩:=P 6 _ rfl;clear P;obtain ⟨o0,l0,c0,e0,r0⟩:=open_sli Tryz.underlying22 (kk:=2) (by kernel_rfl) (by decide) (bb:=16) (by kernel_rfl) (by decide) opens_ty p0 w0;obtain ⟨o1,l1,c1,e1,r1⟩:=open_sli Tryz.underlying23 c_int64.1 (by decide) c_int64.2 (by decide) (opens_int Tryz.underlying2) p1 w1;obtain ⟨o2,l2,c2,e2,r2⟩:=open_sli Tryz.underlying24 (kk:=2) (by kernel_rfl) (by decide) (bb:=32) (by kernel_rfl) (by decide) opens_shape p2 w2;obtain ⟨o3,l3,c3,e3,r3⟩:=open_sli Tryz.underlying25 c_int.1 (by decide) c_int.2 (by decide) (opens_int Tryz.underlying3) p3 w3;obtain ⟨o4,l4,c4,e4,r4⟩:=open_sli Tryz.underlying26 (kk:=10) (by kernel_rfl) (by decide) (bb:=136) (by kernel_rfl) (by decide) opens_proc p4 w4;obtain ⟨v5,e5,_,_⟩:=DataW.trod_int Tryz.underlying3 p5;obtain ⟨o6,l6,c6,e6,r6⟩:=open_sli Tryz.underlying27 (kk:=12) (by kernel_rfl) (by decide) (bb:=144) (by kernel_rfl) (by decide) opens_expr p6 w6;have f0:=(one_cs (l:=l) (o:=0) (by omega) (by kernel_rfl)).symm.trans e0;have f1:=(one_cs (l:=l) (o:=1) (by omega) (by kernel_rfl)).symm.trans e1;have f2:=(one_cs (l:=l) (o:=2) (by omega) (by kernel_rfl)).symm.trans e2;have f3:=(one_cs (l:=l) (o:=3) (by omega) (by kernel_rfl)).symm.trans e3;have f4:=(one_cs (l:=l) (o:=4) (by omega) (by kernel_rfl)).symm.trans e4;have f5:=(one_cs (l:=l) (o:=5) (by omega) (by kernel_rfl)).symm.trans e5;have f6:=(one_cs (l:=l) (o:=6) (by omega) (by kernel_rfl)).symm.trans e6;clear e0 e1 e2 e3 e4 e5 e6 p0 p1 p2 p3 p4 p5 p6 w0 w1 w2 w3 w4 w5 w6 hf hw hsz hv;obtain ⟨a0,a1,a2,a3,a4,a5,a6,rfl⟩:=seven_of hl;simp only [List.getElem_cons_zero,List.getElem_cons_succ,List.cons.injEq,and_true] at f0 f1 f2 f3 f4 f5 f6;subst f0 f1 f2 f3 f4 f5 f6;exact ⟨⟨o0,c0,o1,c1,o2,c2,o3,c3,o4,c4,o6,c6⟩,⟨l0,l1,l2,l3,l4,v5,l6⟩,rfl,r0,r1,r2,r3,r4,r6⟩
end Go.Proofs.YtnoibjahliafpaaGreatDoor
namespace Go.Proofs.YtnoibjahliafpaaGreatDoor
open Go.ChangeShapes Go.WideShapes Go.ChangeAt Go.RowKit
structure GJ (w0:World) (XS:Array Value) (T e:TypeId) (v:Value) (xs:List Value) (W:World):Prop where
 own:W.ownsRow (w0.heap.size+1) e 1 v xs.length xs
 bx:Bq w0 w0.heap.size XS T W
section
variable {w0 W W1:World} {XS:Array Value} {T e:TypeId} {v v1:Value} {xs ys:List Value} {o:Obj}
theorem GJ.base (h:GJ w0 XS T e v xs W):w0.heap.size+1≤W.heap.size:=lt_of_block h.bx.box
theorem GJ.put (h:GJ w0 XS T e v xs W) (hg: (W.alloc o).grownBy W1 v.ownBlock) (ho:W1.ownsRow (w0.heap.size+1) e 1 v1 (xs.length+ys.length) (xs ++ ys)):GJ w0 XS T e v1 (xs ++ ys) W1:=by
 have hb:=h.base;refine ⟨by rw [List.length_append];exact ho, ?_, ?_⟩
 · rw [hg.block w0.heap.size (by simp;omega) (fun e=>by have:=(h.own.lt _ e.symm).1;omega)];exact ((ball o).block _ hb).trans h.bx.box
 · exact (h.bx.bel.alloc h.bx.bel.size _).grown hg (by simp;omega) (fun k hk=>by have:=(h.own.lt k hk).1;omega)
theorem GJ.put0 (h:GJ w0 XS T e v xs W) (hg:W.grownBy W1 v.ownBlock) (ho:W1.ownsRow (w0.heap.size+1) e 1 v1 (xs.length+ys.length) (xs ++ ys)):GJ w0 XS T e v1 (xs ++ ys) W1:=by
 have hb:=h.base;refine ⟨by rw [List.length_append];exact ho, ?_, ?_⟩
 · rw [hg.block w0.heap.size (by omega) (fun e=>by have:=(h.own.lt _ e.symm).1;omega)];exact h.bx.box
 · exact h.bx.bel.grown hg (by omega) (fun k hk=>by have:=(h.own.lt k hk).1;omega)
end
def WaysP (w:World) (B:Nat) (p:List (List TransD)) (e:Ending) (w':World):Prop:=∃o c,e= .returned (.slice o p.length c)∧Row w'.heap.size o 1 (escAt B w') p∧Below w.heap.size w w'
def lCells (l:LocD) (oo eo:Option Addr) (oc ec:Nat):Array Value:=#[.slice oo l.out.length oc,.slice eo l.esc.length ec,.bool l.atomic,.bool l.dstep,.bool l.fin,.bool l.accept,.bool l.progress]
theorem info_ways: (Tryz.prog.info? 103).map (fun i=>(i.zero,i.size,i.bytes))=some (some (.slice none 0 0),1,24):=by kernel_rfl
theorem one_way (W:World) (x:Value):∀j u',[x][j]? =some u'→ (W.alloc (.cells #[x] 103)).cell? ((⟨W.heap.size,0,none⟩:Addr).add j)=some u':=by
 intro j u' hj
 match j,hj with
 | 0,hj=>simp at hj;subst hj;exact (cell_of_row _ _ 0 _ _ _ (heap_alloc_new W _)).trans rfl
 | j+1,hj=>simp at hj
theorem GJ.ways {w0 W:World} {B:Nat} {XS:Array Value} {v:Value} {xs:List Value} {p:List (List TransD)} (h:GJ w0 XS 106 103 v xs W) (hp:0 < p.length) (hp2:p.length≤9) (hl:xs.length=p.length) (he:∀i (hi:i < p.length) (hx:i < xs.length),∃o c,xs[i]= .slice o p[i].length c∧Row B o 9 (transAt B w0) p[i]) (hB:B≤w0.heap.size):WaysP w0 B p (.returned v) W:=by
 rcases h.own.2 with ⟨rfl,hl0⟩ | ⟨g,cap,cur,rfl,hb,hg,hc,hm,hs,ht⟩
 · omega
 · refine ⟨some ⟨g,0,none⟩,cap,by rw [hl],⟨by omega,.inr ⟨g,0,rfl,lt_of_block hg,fun i hi=> ?_⟩⟩,h.bx.bel⟩;obtain ⟨o,c,h1,h2⟩:=he i hi (by omega);have h3:=h.own.cells (g:=g) rfl i (.slice o p[i].length c) (by rw [←h1];simp);rw [held.add_off] at h3;refine ⟨o,c,by rw [show 0+i*1=0+i by omega];exact h3,h2.mono fun _ _ _ hg=>transAt.below (h.bx.bel.mono hB) hg⟩
set_option maxRecDepth 100000 in
set_option maxHeartbeats 2000000 in
theorem waysRowH {B:Nat} (l:LocD) (oo eo:Option Addr) (oc ec:Nat) (w:World) (hB:B≤w.heap.size) (h1:Row B oo 9 (transAt B w) l.out) (h2:Row B eo 1 (escAt B w) l.esc) (h8:l.esc.length≤8):
 Calls Tryz.prog 84 #[.agg (lCells l oo eo oc ec)] w (WaysP w B (l.out :: l.esc)):=by
 obtain ⟨i0,hi,hz0,hz1,hz2⟩:=held.info_parts info_ways;have HI:=Lib.hid (And.intro hi (And.intro hz0 (And.intro hz1 hz2)));have H1:=Lib.hid h1;have H2:=Lib.hid h2;have HBB:=Lib.hid hB;have n1:=h1.1;have n2:=h2.1;have HJ0:Hid (GJ w (lCells l oo eo oc ec) 106 103 (.slice none 0 0) [] (w.alloc (.cells (lCells l oo eo oc ec) 106))):=Lib.hid ⟨World.ownsRow_nil _ _ _ _,Bq.new (Below.refl _ _) _ _⟩;obtain ⟨vs,hvl,hvs⟩:=list_of (fun j (v:Value)=>w.cell? ⟨(eo.getD ⟨0,0,none⟩).block,(eo.getD ⟨0,0,none⟩).off+j,none⟩=some v∧∀hj:j < l.esc.length,∃o c,v= .slice o l.esc[j].length c∧Row B o 9 (transAt B w) l.esc[j]) l.esc.length (fun j hj=>by
  obtain ⟨g,off,rfl,hg,o,c,e1,e2⟩:=h2.cell hj;rw [Nat.mul_one] at e1;exact ⟨.slice o l.esc[j].length c,e1,fun _=>⟨o,c,rfl,e2⟩⟩)
 have HVL:=Lib.hid hvl;have HVS:=Lib.hid hvs;have HV1:Hid (∀u ∈ vs,u.oneCell'=true):=Lib.hid (by
  intro u hu;obtain ⟨j,hj,rfl⟩:=List.mem_iff_getElem.1 hu;obtain ⟨o,c,e1,-⟩:=(hvs j hj).2 (by omega);rw [e1];rfl)
 have HEND:Hid (∀v (W:World),GJ w (lCells l oo eo oc ec) 106 103 v ([.slice oo l.out.length oc] ++ vs) W→WaysP w B (l.out :: l.esc) (.returned v) W):=Lib.hid (by
  intro v W hj;refine hj.ways (by simp) (by simp;omega) (by simp [hvl]) (fun i hi hx=> ?_) hB
  match i,hi,hx with
  | 0,_,_=>exact ⟨oo,oc,rfl,h1⟩
  | i+1,hi,hx=>
    have h3:i < vs.length:=by simpa using hx
    have h4:i < l.esc.length:=by simpa using hi
    obtain ⟨o,c,e1,e2⟩:=(hvs i h3).2 h4;exact ⟨o,c,by simpa using e1,by simpa using e2⟩)
 unfold lCells at HJ0 HEND ⊢;clear hi hz0 hz1 hz2 h1 h2 hB hvl hvs;go_enter Tryz.func84,Tryz.ntmps84;go_wp2_with (at_builtin;refine wpList_append_own _ rfl _ _ 104 rfl (w.heap.size+1) 103 i0 (.slice none 0 0) 1 24 Tryz.underlying104 HI.out.1 HI.out.2.1 HI.out.2.2.1 HI.out.2.2.2 rfl (by decide) (.slice none 0 0) 0 [] rfl (HJ0.out.own.alloc _) ⟨w.heap.size+1,0,none⟩ 1 1 [.slice oo l.out.length oc] rfl rfl (by intro j u' hj;match j,hj with | 0,hj=>simp at hj;subst hj;simp [Addr.add] | j+1,hj=>simp at hj) (by intro u hu;simp at hu;subst hu;rfl) (by unfold maxLen;simp) (by simp) (by simp) ?_);intro v1 w1 hown hgrow _;have HJ1:Hid (GJ w #[.slice oo l.out.length oc,.slice eo l.esc.length ec,.bool l.atomic,.bool l.dstep,.bool l.fin,.bool l.accept,.bool l.progress] 106 103 v1 ([] ++ [.slice oo l.out.length oc]) w1):=Lib.hid (HJ0.out.put hgrow hown);have f1:w1.cell? ⟨w.heap.size,1,none⟩=some (.slice eo l.esc.length ec):=HJ1.out.bx.cell rfl;clear hown hgrow;by_cases h0:l.esc.length=0
 · have hvn:vs= []:=List.eq_nil_of_length_eq_zero (by rw [HVL.out];exact h0);subst hvn;rw [h0] at f1;go_wp2_with (at_builtin;refine wpList_append_zero rfl _ _ 104 rfl (w.heap.size+1) 103 i0 1 Tryz.underlying104 HI.out.1 v1 1 [.slice oo l.out.length oc] rfl HJ1.out.own eo ec rfl ?_);go_wp2_with fail;go_ret;exact HEND.out _ _ (by simpa using HJ1.out)
 · obtain ⟨g,off,heo,-⟩:=H2.out.cell (i:=0) (by omega);subst heo;have HN:Hid (∀j u,vs[j]? =some u→w1.cell? ((⟨g,off,none⟩:Addr).add j)=some u):=Lib.hid fun j u hj=>by
    obtain ⟨hj2,rfl⟩:=List.getElem?_eq_some_iff.1 hj;obtain ⟨g',off',e1,hg',-⟩:=H2.out.cell (i:=j) (by have:=HVL.out;omega);injection e1 with e1
    injection e1 with e1 e3
    subst e1;rw [held.add_off,HJ1.out.bx.bel.cell (p:=⟨g,off+j,none⟩) (Nat.lt_of_lt_of_le hg' HBB.out)];exact (HVS.out j hj2).1
   have HLN:Hid (vs.length=l.esc.length*1):=Lib.hid (by rw [HVL.out,Nat.mul_one]);clear h0;go_wp2_with (at_builtin;refine wpList_append_own _ rfl _ _ 104 rfl (w.heap.size+1) 103 i0 (.slice none 0 0) 1 24 Tryz.underlying104 HI.out.1 HI.out.2.1 HI.out.2.2.1 HI.out.2.2.2 rfl (by decide) v1 1 [.slice oo l.out.length oc] rfl HJ1.out.own ⟨g,off,none⟩ l.esc.length ec vs rfl HLN.out HN.out HV1.out (by unfold maxLen;omega) (by omega) (by have:=HJ1.out.base;omega) ?_);intro v2 w2 hown hgrow _;have HJ2:Hid (GJ w #[.slice oo l.out.length oc,.slice (some ⟨g,off,none⟩) l.esc.length ec,.bool l.atomic,.bool l.dstep,.bool l.fin,.bool l.accept,.bool l.progress] 106 103 v2 (([] ++ [.slice oo l.out.length oc]) ++ vs) w2):=Lib.hid (HJ1.out.put0 hgrow (by have e:=HVL.out;simp at hown ⊢;rw [e];exact hown));clear hown hgrow;go_wp2_with fail;go_ret;exact HEND.out _ _ (by simpa using HJ2.out)
end Go.Proofs.YtnoibjahliafpaaGreatDoor
namespace Go.Proofs.YtnoibjahliafpaaGreatDoor
open Go.ChangeShapes Go.WideShapes Go.ChangeAt Go.RowKit
def regionOfT (n:Nat):Code→Option Code
 | .region m a b=>if m=n then some (.region m a b) else none
 | .seq a b=>match regionOfT n a with
   | some c=>some c
   | none=>regionOfT n b
 | .loop c=>regionOfT n c
 | .block _ c=>regionOfT n c
 | .scope c=>regionOfT n c
 | .cond _ a b=>match regionOfT n a with
   | some c=>some c
   | none=>regionOfT n b
 | _=>none
noncomputable def reg14:Code:=((Tryz.f56.body.bind (regionOfT 14)).getD .skip)
def headT (n0 n1:Nat) (ds at' qf qc:Bool):Bool:=decide (8 < n1) || (ds && at') || (qf && (decide (0 < n0) || decide (0 < n1))) || (qc && (decide (0 < n1) || at' || ds))
set_option maxRecDepth 100000 in
set_option maxHeartbeats 4000000 in
theorem reg14C (I K F C:Int) (pm pp pl n0 n1:Nat) (oo eo:Option Addr) (oc ec:Nat) (ds at':Bool) (W:World) (q0:W.cell? ⟨pl,0,none⟩=some (.slice oo n0 oc)) (q1:W.cell? ⟨pl,1,none⟩=some (.slice eo n1 ec)) (q2:W.cell? ⟨pl,2,none⟩=some (.bool at')) (q3:W.cell? ⟨pl,3,none⟩=some (.bool ds)) (f6:W.cell? ⟨pp,6,none⟩=some (.int .i64 F)) (c5:W.cell? ⟨pm,5,none⟩=some (.int .i64 C))
 (Q0:Exit→Act→World→Prop) (J:Act→World→Prop) (c0 c3 c4 c6 c7 c10 c11 c12 c13 c14 c15 c16 c17 c18 c19 c20 c21 c22 c23 c24 c25 c26 c27 c28 c29 c30 c31 c32 c33 c34 c35 c36 c37 c38 c39 c40 c41 c42 c43 c44 c45 c46 c47 c48 c49 c50 c51 c52 c53 c54 c55 c56 c57 c58 c59 c60 c61 c62 c63 c64 c65 c66 c67 c68 c69 c70 c71 c72 c73 c74 c75 c76 c77 c78 c79 c80 c81 c82 c83 c84 c85 c86 c87 c88 c89 c90 c91 c92 c93 c94 c95 c96 c97 c98 c99 c100 c101 c102 c103 c104 c105 c106 c107 c108 c109 c110 c111 c112 c113 c114 c115 c116 c117 c118 c119 c120 c121 c122 c123 c124 c125 c126 c127 c128 c129 c130 c131 c132 c133 c134 c135 c136 c137 c138 c139 c140 c141 c142 c143 c144 c145 c146 c147 c148 c149 c150 c151 c152 c153 c154 c155 c156 c157 c158 c159 c160 c161 c162 c163 c164 c165 c166 c167 c168 c169 c170 c171 c172 c173 c174 c175 c176 c177 c178 c179 c180 c181 c182 c183 c184 c185 c186 c187 c188 c189 c190 c191 c192 c193 c194 c195 c196 c197 c198 c199 c200 c201 c202 c203 c204 c205 c206 c207 c208 c209 c210 c211 c212 c213 c214 c215 c216 c217 c218 c219 c220 c221 c222 c223 c224 c225 c226 c227 c228 c229 c230 c231 c232 c233 c234 c235 c236 c237 c238 c239 c240 c241 c242 c243 c244 c245 c246 c247 c248 c249 c250 c251 c252 c253 c254 c255 c256 c257 c258 c259 c260 c261 c262:Value) (HJ:Hid (∀ (b:Bool) (u154 u155 u156 u157 u158 u159 u160 u161 u162 u163 u164 u165 u166 u167 u168 u169 u170 u171 u172 u173 u174 u175 u176 u177 u178 u179 u180 u181 u182 u183 u184 u185 u186 u187 u188 u189 u190 u191 u192 u193 u194 u195 u196 u197 u198 u199 u200 u201 u202:Value),Hid (b=headT n0 n1 ds at' (K == F) (I == C))→J ⟨#[c0,.int .i64 I,.pointer (some ⟨pm,0,none⟩),c3,c4,.pointer (some ⟨pp,0,none⟩),c6,c7,.int .i64 K,.pointer (some ⟨pl,0,none⟩),c10,c11,c12,c13,c14,c15,c16,c17,c18,c19,c20,c21,c22,c23,c24,c25,c26,c27,c28,c29,c30,c31,c32,c33,c34,c35,c36,c37,c38,c39,c40,c41,c42,c43,c44,c45,c46,c47,c48,c49,c50,c51,c52,c53,c54,c55,c56,c57,c58,c59,c60,c61,c62,c63,c64,c65,c66,c67,c68,c69,c70,c71,c72,c73,c74,c75,c76,c77,c78,c79,c80,c81,c82,c83,c84,c85,c86,c87,c88,c89,c90,c91,c92,c93,c94,c95,c96,c97,c98,c99,c100,c101,c102,c103,c104,c105,c106,c107,c108,c109,c110,c111,c112,c113,c114,c115,c116,c117,c118,c119,c120,c121,c122,c123,c124,c125,c126,c127,c128,c129,c130,c131,c132,c133,c134,c135,c136,c137,c138,c139,c140,c141,c142,c143,c144,c145,c146,c147,c148,c149,c150,c151,c152,c153,u154,u155,u156,u157,u158,u159,u160,u161,u162,u163,u164,u165,u166,u167,u168,u169,u170,u171,u172,u173,u174,u175,u176,u177,u178,u179,u180,u181,u182,u183,u184,u185,u186,u187,u188,u189,u190,u191,u192,u193,u194,u195,u196,u197,u198,u199,u200,u201,u202,.bool b,c204,c205,c206,c207,c208,c209,c210,c211,c212,c213,c214,c215,c216,c217,c218,c219,c220,c221,c222,c223,c224,c225,c226,c227,c228,c229,c230,c231,c232,c233,c234,c235,c236,c237,c238,c239,c240,c241,c242,c243,c244,c245,c246,c247,c248,c249,c250,c251,c252,c253,c254,c255,c256,c257,c258,c259,c260,c261,c262],[]⟩ W)):Code.wp Tryz.prog reg14 (Exit.then J Q0) ⟨#[c0,.int .i64 I,.pointer (some ⟨pm,0,none⟩),c3,c4,.pointer (some ⟨pp,0,none⟩),c6,c7,.int .i64 K,.pointer (some ⟨pl,0,none⟩),c10,c11,c12,c13,c14,c15,c16,c17,c18,c19,c20,c21,c22,c23,c24,c25,c26,c27,c28,c29,c30,c31,c32,c33,c34,c35,c36,c37,c38,c39,c40,c41,c42,c43,c44,c45,c46,c47,c48,c49,c50,c51,c52,c53,c54,c55,c56,c57,c58,c59,c60,c61,c62,c63,c64,c65,c66,c67,c68,c69,c70,c71,c72,c73,c74,c75,c76,c77,c78,c79,c80,c81,c82,c83,c84,c85,c86,c87,c88,c89,c90,c91,c92,c93,c94,c95,c96,c97,c98,c99,c100,c101,c102,c103,c104,c105,c106,c107,c108,c109,c110,c111,c112,c113,c114,c115,c116,c117,c118,c119,c120,c121,c122,c123,c124,c125,c126,c127,c128,c129,c130,c131,c132,c133,c134,c135,c136,c137,c138,c139,c140,c141,c142,c143,c144,c145,c146,c147,c148,c149,c150,c151,c152,c153,c154,c155,c156,c157,c158,c159,c160,c161,c162,c163,c164,c165,c166,c167,c168,c169,c170,c171,c172,c173,c174,c175,c176,c177,c178,c179,c180,c181,c182,c183,c184,c185,c186,c187,c188,c189,c190,c191,c192,c193,c194,c195,c196,c197,c198,c199,c200,c201,c202,c203,c204,c205,c206,c207,c208,c209,c210,c211,c212,c213,c214,c215,c216,c217,c218,c219,c220,c221,c222,c223,c224,c225,c226,c227,c228,c229,c230,c231,c232,c233,c234,c235,c236,c237,c238,c239,c240,c241,c242,c243,c244,c245,c246,c247,c248,c249,c250,c251,c252,c253,c254,c255,c256,c257,c258,c259,c260,c261,c262],[]⟩ W:=by
 obtain ⟨qf,hqf⟩:∃q,(K == F)=q:=⟨_,rfl⟩;obtain ⟨qc,hqc⟩:∃q,(I == C)=q:=⟨_,rfl⟩;rw [hqf,hqc] at HJ;refine wp_mono (Q:=Exit.then (Met J) Q0) ?_ (fun e a w h=> ?_)
 · conv=>arg 2;whnf
   cases ds <;> cases at' <;> cases qf <;> cases qc
   all_goals (
    go_wp2_with fail
    all_goals (
     refine Met.intro ?_;exact HJ.out _ _ _ _ _ _ _ _ _ _ _ _ _ _ _ _ _ _ _ _ _ _ _ _ _ _ _ _ _ _ _ _ _ _ _ _ _ _ _ _ _ _ _ _ _ _ _ _ _ _ (Lib.hid (by unfold headT;rw [Bool.eq_iff_iff];simp;try omega))))
 · cases e with
   | normal=>exact h
   | _=>exact h
end Go.Proofs.YtnoibjahliafpaaGreatDoor
