/- A model that came in, opened. -/
import Derived.Test.YtnoibjahliafpaaDoorM17
import Derived.SizedLaws
import Derived.OpenShut
import Derived.ChangeArms
import Derived.ChangeMaps5
import Derived.Test.YtnoibjahliafpaaDoorM02
set_option linter.unusedVariables false
set_option linter.unusedSimpArgs false
namespace Go.Proofs.YtnoibjahliafpaaDoor
open Go.ChangeShapes Go.WideShapes Go.ChangeAt Go.RowKit
set_option maxRecDepth 100000
theorem list_of {α:Type} (p:Nat→α→Prop):∀n,(∀i,i < n→∃m,p i m)→∃l:List α,l.length=n∧∀i (h:i < l.length),p i l[i]
 | 0,_=>⟨[],rfl,fun i h=>by simp at h⟩
 | n+1,h=>by
   obtain ⟨l,hl,hp⟩:=list_of p n fun i hi=>h i (by omega)
   obtain ⟨m,hm⟩:=h n (by omega);refine ⟨l ++ [m],by simp [hl],fun i hi=> ?_⟩;by_cases e:i < l.length
   · rw [List.getElem_append_left e];exact hp i e
   · obtain rfl:i=l.length:=by simp at hi;omega
     rw [List.getElem_append_right (Nat.le_refl _)];simpa [hl] using hm
theorem add_off (b off k:Nat): (⟨b,off,none⟩:Addr).add k= ⟨b,off+k,none⟩:=by
 unfold Addr.add;split
 · rename_i h
   subst h;rfl
 · rfl
theorem weightsAll_mem {H:Type} {P:Program} {e:TypeId}:∀ {l:List (DataW H)} {d:DataW H},d ∈ l→∀k ∈ DataW.weights P e d,k ∈ DataW.weightsAll P e l
 | x :: l,d,hd,k,hk=>by
   simp only [DataW.weightsAll,List.mem_append];rcases List.mem_cons.1 hd with rfl | hd
   · exact .inl hk
   · exact .inr (weightsAll_mem hd k hk)
def Fits {H:Type} (t:TypeId) (d:DataW H):Prop:=∀k ∈ DataW.weights Tryd.prog t d,k≤reachBytes
def Lies (W:World) (g off:Nat) (ds:List Value):Prop:=∀j,j < ds.length→W.cell? ⟨g,off+j,none⟩=ds[j]?
theorem Lies.part {W:World} {g off:Nat} {ds:List Value} (h:Lies W g off ds) (o n:Nat):Lies W g (off+o) ((ds.drop o).take n):=by
 intro j hj;rw [List.length_take,List.length_drop] at hj;rw [List.getElem?_take_of_lt (by omega),List.getElem?_drop,Nat.add_assoc];exact h _ (by omega)
variable {H:Type} {enc:TypeId × Value→H} {W:World} {base:Nat} {sp:Nat→Bool} {hd:Bool} {fuel:Nat}
theorem open_rowS {t e:TypeId} {kk bb:Nat} {cs:List Value} {x:DataW H × List MemPlace} (ht:Tryd.prog.underlying t=some (.slice e)) (hk:Tryd.prog.cellsOf e=kk) (hk1:0 < kk) (hbb:Tryd.prog.bytesOf e=bb) (h:DataW.trod enc Tryd.prog W base sp hd fuel t cs=some x) (hw:Fits t x.1):
 ∃o n c,cs= [.slice o n c]∧n*bb≤reachBytes∧ (n=0∨∃g off,o=some ⟨g,off,none⟩∧g < W.heap.size∧∀i,i < n→∃ (ds:List Value) (y:DataW H × List MemPlace) (m:Nat),ds.length=kk∧ (∀j,j < kk→W.cell? ⟨g,off+i*kk+j,none⟩=ds[j]?)∧DataW.trod enc Tryd.prog W base sp hd m e ds=some y∧Fits e y.1):=by
 rcases DataW.trod_slice ht h with ⟨hcs,_⟩ | ⟨a,l,c,elems,rest,n',_,hcs,hy,hb,hl,hm,hel,hcell,_⟩
 · exact ⟨none,0,0,hcs,by simp,.inl rfl⟩
 · have hbk:l*bb≤reachBytes:=by
    have h1: ((elems.map (·.1)).length+ (rest.map (·.1)).length)*Tryd.prog.bytesOf e≤reachBytes:=hw _ (by
     rw [hy];simp only [DataW.weights,ht];exact List.mem_cons_self ..)
    rw [hbb,List.length_map,hel] at h1;exact Nat.le_trans (Nat.mul_le_mul_right _ (Nat.le_add_right _ _)) h1
   refine ⟨some a,l,c,hcs,hbk, ?_⟩;by_cases hl0:l=0
   · exact .inl hl0
   · rw [hk] at hcell;obtain ⟨ab,off,spot⟩:=a;have hspot:spot=none:=by
      have hc:=hcell 0 (by omega);rw [List.getElem?_eq_getElem (by omega)] at hc;obtain ⟨cs,hcs,_⟩:=Option.bind_eq_some_iff.1 hc;obtain ⟨_,hl4,h0⟩:=World.cells?_some hcs;have h0:=h0 0 (by omega);rw [List.getElem?_eq_getElem (by omega)] at h0;have h1:=World.cell?_spot h0;simpa [Addr.add] using h1
     subst hspot;have hall:∀i,i < l→∃ (ds:List Value) (y:DataW H × List MemPlace) (m:Nat),ds.length=kk∧ (∀j,j < kk→W.cell? ⟨ab,off+i*kk+j,none⟩=ds[j]?)∧DataW.trod enc Tryd.prog W base sp hd m e ds=some y∧Fits e y.1:=fun i hi=>by
      have hc:=hcell i hi;rw [List.getElem?_eq_getElem (by omega),add_off] at hc;obtain ⟨cs,hcs,htr⟩:=Option.bind_eq_some_iff.1 hc;obtain ⟨_,hl4,hcc⟩:=World.cells?_some hcs;refine ⟨cs,_,_,hl4,fun j hj=> ?_,htr,fun k hk=>hw k ?_⟩
      · have:=hcc j hj;rw [add_off] at this;exact this
      · rw [hy];simp only [DataW.weights,ht];refine List.mem_cons_of_mem _ (List.mem_append_left _ (weightsAll_mem ?_ k hk));exact List.mem_map.2 ⟨_,List.getElem_mem _,rfl⟩
     obtain ⟨ds,y,m,h1,h2,_⟩:=hall 0 (by omega);have h3:=h2 0 hk1;rw [List.getElem?_eq_getElem (by omega)] at h3;exact .inr ⟨ab,off,rfl,World.block_lt_of_cell? W _ h3,hall⟩
def Part (enc:TypeId × Value→H) (W:World) (base:Nat) (sp:Nat→Bool) (hd:Bool) (e:TypeId) (g off:Nat):Prop:=
 ∃m ds y,Lies W g off ds∧DataW.trod enc Tryd.prog W base sp hd m e ds=some y∧Fits e y.1
def Opens {α:Type} (enc:TypeId × Value→H) (W:World) (base:Nat) (sp:Nat→Bool) (hd:Bool) (e:TypeId) (R:Nat→Nat→α→Prop):Prop:=∀g off,Part enc W base sp hd e g off→∃x,R g off x
theorem open_fits {t:TypeId} {fs:Array Field} {ds:List Value} {m:Nat} {y:DataW H × List MemPlace} (hs:Tryd.prog.underlying t=some (.struct fs)) (h:DataW.trod enc Tryd.prog W base sp hd m t ds=some y) (hw:Fits t y.1):
 ∀ (j:Nat) (f:Field),fs[j]? =some f→∃n y',DataW.trod enc Tryd.prog W base sp hd n f.type ((ds.drop f.offset).take (Tryd.prog.cellsOf f.type))=some y'∧Fits f.type y'.1:=by
 obtain ⟨xs,n,_,rfl,hl,hlen,hf⟩:=DataW.trod_struct hs h;intro j f hj;have hjl:j < fs.size:=(Array.getElem?_eq_some_iff.1 hj).1;have hx:xs[j]? =some (xs[j]'(by omega)):=List.getElem?_eq_getElem (by omega);refine ⟨n,xs[j]'(by omega),(hf j f hj).trans hx,fun k hk=>hw k ?_⟩;simp only [DataW.weights,hs];refine DataW.weights_mem_each (j:=j) (t:=f.type) (d:=(xs[j]'(by omega)).1) ?_ ?_ k hk
 · rw [List.getElem?_map,Array.getElem?_toList,hj];rfl
 · rw [List.getElem?_map,hx];rfl
theorem open_parts {t:TypeId} {fs:Array Field} {g off:Nat} (hs:Tryd.prog.underlying t=some (.struct fs)) (h:Part enc W base sp hd t g off):
 ∀ (j:Nat) (f:Field),fs[j]? =some f→Part enc W base sp hd f.type g (off+f.offset):=by
 obtain ⟨m,ds,y,hl,h1,hw⟩:=h;intro j f hj;obtain ⟨n,y',h2,h3⟩:=open_fits hs h1 hw j f hj;exact ⟨n,_,y',hl.part _ _,h2,h3⟩
theorem opens_int {t:TypeId} (ht:Tryd.prog.underlying t=some (.int .i64)):Opens enc W base sp hd t (intAt W):=by
 rintro g off ⟨m,ds,y,hl,h,_⟩;obtain ⟨v,rfl,_,_⟩:=DataW.trod_int ht h;exact ⟨v,hl 0 (by simp)⟩
theorem opens_bool {t:TypeId} (ht:Tryd.prog.underlying t=some .bool):Opens enc W base sp hd t (boolAt W):=by
 rintro g off ⟨m,ds,y,hl,h,_⟩;obtain ⟨v,rfl,_⟩:=DataW.trod_bool ht h;exact ⟨v,hl 0 (by simp)⟩
theorem opens_str {t:TypeId} (ht:Tryd.prog.underlying t=some .string):Opens enc W base sp hd t (strAt W):=by
 rintro g off ⟨m,ds,y,hl,h,_⟩;obtain ⟨v,rfl,_⟩:=DataW.trod_string ht h;exact ⟨v,hl 0 (by simp)⟩
theorem open_sli {α:Type} {R:Nat→Nat→α→Prop} {t e:TypeId} {kk bb:Nat} {cs:List Value} {x:DataW H × List MemPlace} (ht:Tryd.prog.underlying t=some (.slice e)) (hk:Tryd.prog.cellsOf e=kk) (hk1:0 < kk) (hbb:Tryd.prog.bytesOf e=bb) (hb1:0 < bb) (he:Opens enc W base sp hd e R)
 (h:DataW.trod enc Tryd.prog W base sp hd fuel t cs=some x) (hw:Fits t x.1):∃o l c,cs= [.slice o (List.length l) c]∧Row W.heap.size o kk R l:=by
 obtain ⟨o,n,c,rfl,hn,hr⟩:=open_rowS ht hk hk1 hbb h hw;have hn2:n≤140737488355328:=by
  have h1:n*1≤n*bb:=Nat.mul_le_mul_left _ hb1;have h2:reachBytes=140737488351232:=rfl;omega
 rcases hr with h0 | ⟨g,off,ho,hg,hc⟩
 · subst h0;exact ⟨o,[],c,rfl,by simp,.inl rfl⟩
 · obtain ⟨l,hl,hp⟩:=list_of (fun i (v:α)=>R g (off+i*kk) v) n fun i hi=>by
    obtain ⟨ds,y,m,h1,h2,h3,h4⟩:=hc i hi;exact he _ _ ⟨m,ds,y,fun j hj=>h2 j (by omega),h3,h4⟩
   subst hl;exact ⟨o,l,c,rfl,hn2,.inr ⟨g,off,ho,hg,hp⟩⟩
theorem opens_sli {α:Type} {R:Nat→Nat→α→Prop} {t e:TypeId} {kk bb:Nat} (ht:Tryd.prog.underlying t=some (.slice e)) (hk:Tryd.prog.cellsOf e=kk) (hk1:0 < kk) (hbb:Tryd.prog.bytesOf e=bb) (hb1:0 < bb) (he:Opens enc W base sp hd e R):
 Opens enc W base sp hd t (fun g a (l:List α)=>Sli W.heap.size W g a kk R l):=by
 rintro g off ⟨m,ds,y,hl,h,hw⟩;obtain ⟨o,l,c,rfl,hr⟩:=open_sli ht hk hk1 hbb hb1 he h hw;exact ⟨l,o,c,hl 0 (by simp),hr⟩
theorem c_int:Tryd.prog.cellsOf 3=1∧Tryd.prog.bytesOf 3=8:=⟨by kernel_rfl,by kernel_rfl⟩
theorem c_int64:Tryd.prog.cellsOf 2=1∧Tryd.prog.bytesOf 2=8:=⟨by kernel_rfl,by kernel_rfl⟩
theorem opens_ints:Opens enc W base sp hd 25 (fun g a l=>Sli W.heap.size W g a 1 (intAt W) l):=opens_sli Tryd.underlying25 c_int.1 (by decide) c_int.2 (by decide) (opens_int Tryd.underlying3)
theorem opens_int64s:Opens enc W base sp hd 23 (fun g a l=>Sli W.heap.size W g a 1 (intAt W) l):=opens_sli Tryd.underlying23 c_int64.1 (by decide) c_int64.2 (by decide) (opens_int Tryd.underlying2)
theorem opens_ty:Opens enc W base sp hd 70 (tyAt W):=by
 intro g off h;have P:=open_parts Tryd.underlying70 h;obtain ⟨x0,h0⟩:=opens_int Tryd.underlying3 _ _ (P 0 _ rfl);obtain ⟨x1,h1⟩:=opens_bool Tryd.underlying4 _ _ (P 1 _ rfl);exact ⟨(x0,x1),h0,h1⟩
theorem opens_tys:Opens enc W base sp hd 22 (fun g a l=>Sli W.heap.size W g a 2 (tyAt W) l):=opens_sli Tryd.underlying22 (by kernel_rfl) (by decide) (bb:=16) (by kernel_rfl) (by decide) opens_ty
theorem opens_dim:Opens enc W base sp hd 149 (dimAt W):=by
 intro g off h;have P:=open_parts Tryd.underlying149 h;obtain ⟨x0,h0⟩:=opens_int Tryd.underlying3 _ _ (P 0 _ rfl);obtain ⟨x1,h1⟩:=opens_int Tryd.underlying3 _ _ (P 1 _ rfl);obtain ⟨x2,h2⟩:=opens_int Tryd.underlying3 _ _ (P 2 _ rfl);exact ⟨⟨x0,x1,x2⟩,h0,h1,h2⟩
theorem opens_dims:Opens enc W base sp hd 119 (fun g a l=>Sli W.heap.size W g a 3 (dimAt W) l):=opens_sli Tryd.underlying119 (by kernel_rfl) (by decide) (bb:=24) (by kernel_rfl) (by decide) opens_dim
theorem opens_var:Opens enc W base sp hd 121 (varAt W.heap.size W):=by
 intro g off h;have P:=open_parts Tryd.underlying121 h;obtain ⟨x0,h0⟩:=opens_int Tryd.underlying3 _ _ (P 0 _ rfl);obtain ⟨x1,h1⟩:=opens_int Tryd.underlying3 _ _ (P 1 _ rfl);obtain ⟨x2,h2⟩:=opens_int Tryd.underlying3 _ _ (P 2 _ rfl);obtain ⟨x3,h3⟩:=opens_int Tryd.underlying3 _ _ (P 3 _ rfl);obtain ⟨x4,h4⟩:=opens_dims _ _ (P 4 _ rfl);exact ⟨⟨x0,x1,x2,x3,x4⟩,h0,h1,h2,h3,h4⟩
theorem opens_expr:Opens enc W base sp hd 123 (exprAt W.heap.size W):=by
 intro g off h;have P:=open_parts Tryd.underlying123 h;obtain ⟨x0,h0⟩:=opens_int Tryd.underlying3 _ _ (P 0 _ rfl);obtain ⟨x1,h1⟩:=opens_int Tryd.underlying2 _ _ (P 1 _ rfl);obtain ⟨x2,h2⟩:=opens_int Tryd.underlying3 _ _ (P 2 _ rfl);obtain ⟨x3,h3⟩:=opens_int Tryd.underlying3 _ _ (P 3 _ rfl);obtain ⟨x4,h4⟩:=opens_int Tryd.underlying3 _ _ (P 4 _ rfl);obtain ⟨x5,h5⟩:=opens_var _ _ (P 5 _ rfl);obtain ⟨x6,h6⟩:=opens_ints _ _ (P 6 _ rfl);obtain ⟨x7,h7⟩:=opens_ints _ _ (P 7 _ rfl);exact ⟨⟨x0,x1,x2,x3,x4,x5,x6,x7⟩,h0,h1,h2,h3,h4,h5,h6,h7⟩
theorem opens_stmt:Opens enc W base sp hd 151 (stmtAt W.heap.size W):=by
 intro g off h;have P:=open_parts Tryd.underlying151 h;obtain ⟨x0,h0⟩:=opens_int Tryd.underlying3 _ _ (P 0 _ rfl);obtain ⟨x1,h1⟩:=opens_int Tryd.underlying3 _ _ (P 1 _ rfl);obtain ⟨x2,h2⟩:=opens_int Tryd.underlying3 _ _ (P 2 _ rfl);obtain ⟨x3,h3⟩:=opens_int Tryd.underlying3 _ _ (P 3 _ rfl);obtain ⟨x4,h4⟩:=opens_ints _ _ (P 4 _ rfl);obtain ⟨x5,h5⟩:=opens_ints _ _ (P 5 _ rfl);obtain ⟨x6,h6⟩:=opens_str Tryd.underlying9 _ _ (P 6 _ rfl);exact ⟨⟨x0,x1,x2,x3,x4,x5,x6⟩,h0,h1,h2,h3,h4,h5,h6⟩
theorem opens_trans:Opens enc W base sp hd 153 (transAt W.heap.size W):=by
 intro g off h;have P:=open_parts Tryd.underlying153 h;obtain ⟨x0,h0⟩:=opens_stmt _ _ (P 0 _ rfl);obtain ⟨x1,h1⟩:=opens_int Tryd.underlying3 _ _ (P 1 _ rfl);obtain ⟨x2,h2⟩:=opens_int Tryd.underlying3 _ _ (P 2 _ rfl);exact ⟨⟨x0,x1,x2⟩,h0,h1,h2⟩
theorem opens_transs:Opens enc W base sp hd 71 (fun g a l=>escAt W.heap.size W g a l):=opens_sli Tryd.underlying71 (by kernel_rfl) (by decide) (bb:=112) (by kernel_rfl) (by decide) opens_trans
theorem opens_escs:Opens enc W base sp hd 72 (fun g a l=>Sli W.heap.size W g a 1 (escAt W.heap.size W) l):=opens_sli Tryd.underlying72 (by kernel_rfl) (by decide) (bb:=24) (by kernel_rfl) (by decide) opens_transs
theorem opens_loc:Opens enc W base sp hd 74 (locAt W.heap.size W):=by
 intro g off h;have P:=open_parts Tryd.underlying74 h;obtain ⟨x0,h0⟩:=opens_transs _ _ (P 0 _ rfl);obtain ⟨x1,h1⟩:=opens_escs _ _ (P 1 _ rfl);obtain ⟨x2,h2⟩:=opens_bool Tryd.underlying4 _ _ (P 2 _ rfl);obtain ⟨x3,h3⟩:=opens_bool Tryd.underlying4 _ _ (P 3 _ rfl);obtain ⟨x4,h4⟩:=opens_bool Tryd.underlying4 _ _ (P 4 _ rfl);obtain ⟨x5,h5⟩:=opens_bool Tryd.underlying4 _ _ (P 5 _ rfl);obtain ⟨x6,h6⟩:=opens_bool Tryd.underlying4 _ _ (P 6 _ rfl);exact ⟨⟨x0,x1,x2,x3,x4,x5,x6⟩,h0,h1,h2,h3,h4,h5,h6⟩
theorem opens_locs:Opens enc W base sp hd 65 (fun g a l=>Sli W.heap.size W g a 7 (locAt W.heap.size W) l):=opens_sli Tryd.underlying65 (by kernel_rfl) (by decide) (bb:=56) (by kernel_rfl) (by decide) opens_loc
theorem opens_proc:Opens enc W base sp hd 67 (procAt W.heap.size W):=by
 intro g off h;have P:=open_parts Tryd.underlying67 h;obtain ⟨x0,h0⟩:=opens_str Tryd.underlying9 _ _ (P 0 _ rfl);obtain ⟨x1,h1⟩:=opens_int Tryd.underlying3 _ _ (P 1 _ rfl);obtain ⟨x2,h2⟩:=opens_tys _ _ (P 2 _ rfl);obtain ⟨x3,h3⟩:=opens_int64s _ _ (P 3 _ rfl);obtain ⟨x4,h4⟩:=opens_locs _ _ (P 4 _ rfl);obtain ⟨x5,h5⟩:=opens_int Tryd.underlying3 _ _ (P 5 _ rfl);obtain ⟨x6,h6⟩:=opens_int Tryd.underlying3 _ _ (P 6 _ rfl);obtain ⟨x7,h7⟩:=opens_int Tryd.underlying3 _ _ (P 7 _ rfl);obtain ⟨x8,h8⟩:=opens_int Tryd.underlying3 _ _ (P 8 _ rfl);obtain ⟨x9,h9⟩:=opens_int Tryd.underlying3 _ _ (P 9 _ rfl);exact ⟨⟨x0,x1,x2,x3,x4,x5,x6,x7,x8,x9⟩,h0,h1,h2,h3,h4,h5,h6,h7,h8,h9⟩
theorem opens_shape:Opens enc W base sp hd 110 (shapeAt W.heap.size W):=by
 intro g off h;have P:=open_parts Tryd.underlying110 h;obtain ⟨x0,h0⟩:=opens_int Tryd.underlying3 _ _ (P 0 _ rfl);obtain ⟨x1,h1⟩:=opens_tys _ _ (P 1 _ rfl);exact ⟨⟨x0,x1⟩,h0,h1⟩
theorem one_cs {l:List Value} {o n:Nat} (h:o < l.length) (hn:n=1): (l.drop o).take n= [l[o]]:=by
 subst hn;rw [List.drop_eq_getElem_cons h];rfl
theorem seven_of {α:Type} {l:List α} (h:l.length=7):∃a b c d e f g,l= [a,b,c,d,e,f,g]:=by
 match l,h with
 | [a,b,c,d,e,f,g],_=>exact ⟨a,b,c,d,e,f,g,rfl⟩
theorem open_model {v:Value} {r:Reach} {b0:Nat} {d:DataW H} {p:List MemPlace} (hv:Value.okWide Tryd.prog W r b0 29 v) (h:DataW.Trod enc Tryd.prog W base sp hd 29 v d p) (hw:Fits 29 d):∃h m,v=mV h m∧MD W.heap.size W h m:=by
 obtain ⟨cs,rfl,hsz⟩:=okWide_struct Tryd.underlying29 hv;obtain ⟨l⟩:=cs;have hC:Tryd.prog.cellsOf 29=7:=by kernel_rfl
 have hl:l.length=7:=hsz.trans hC;obtain ⟨fu,hf⟩:=h;have P:=open_fits Tryd.underlying29 hf hw;obtain ⟨n0,y0,p0,w0⟩:=P 0 _ rfl;obtain ⟨n1,y1,p1,w1⟩:=P 1 _ rfl;obtain ⟨n2,y2,p2,w2⟩:=P 2 _ rfl;obtain ⟨n3,y3,p3,w3⟩:=P 3 _ rfl;obtain ⟨n4,y4,p4,w4⟩:=P 4 _ rfl;obtain ⟨n5,y5,p5,w5⟩:=P 5 _ rfl;obtain ⟨n6,y6,p6,w6⟩:=P 6 _ rfl;clear P;obtain ⟨o0,l0,c0,e0,r0⟩:=open_sli Tryd.underlying22 (kk:=2) (by kernel_rfl) (by decide) (bb:=16) (by kernel_rfl) (by decide) opens_ty p0 w0;obtain ⟨o1,l1,c1,e1,r1⟩:=open_sli Tryd.underlying23 c_int64.1 (by decide) c_int64.2 (by decide) (opens_int Tryd.underlying2) p1 w1;obtain ⟨o2,l2,c2,e2,r2⟩:=open_sli Tryd.underlying24 (kk:=2) (by kernel_rfl) (by decide) (bb:=32) (by kernel_rfl) (by decide) opens_shape p2 w2;obtain ⟨o3,l3,c3,e3,r3⟩:=open_sli Tryd.underlying25 c_int.1 (by decide) c_int.2 (by decide) (opens_int Tryd.underlying3) p3 w3;obtain ⟨o4,l4,c4,e4,r4⟩:=open_sli Tryd.underlying26 (kk:=10) (by kernel_rfl) (by decide) (bb:=136) (by kernel_rfl) (by decide) opens_proc p4 w4;obtain ⟨v5,e5,_,_⟩:=DataW.trod_int Tryd.underlying3 p5;obtain ⟨o6,l6,c6,e6,r6⟩:=open_sli Tryd.underlying27 (kk:=12) (by kernel_rfl) (by decide) (bb:=144) (by kernel_rfl) (by decide) opens_expr p6 w6;have f0:=(one_cs (l:=l) (o:=0) (by omega) (by kernel_rfl)).symm.trans e0;have f1:=(one_cs (l:=l) (o:=1) (by omega) (by kernel_rfl)).symm.trans e1;have f2:=(one_cs (l:=l) (o:=2) (by omega) (by kernel_rfl)).symm.trans e2;have f3:=(one_cs (l:=l) (o:=3) (by omega) (by kernel_rfl)).symm.trans e3;have f4:=(one_cs (l:=l) (o:=4) (by omega) (by kernel_rfl)).symm.trans e4;have f5:=(one_cs (l:=l) (o:=5) (by omega) (by kernel_rfl)).symm.trans e5;have f6:=(one_cs (l:=l) (o:=6) (by omega) (by kernel_rfl)).symm.trans e6;clear e0 e1 e2 e3 e4 e5 e6 p0 p1 p2 p3 p4 p5 p6 w0 w1 w2 w3 w4 w5 w6 hf hw hsz hv;obtain ⟨a0,a1,a2,a3,a4,a5,a6,rfl⟩:=seven_of hl;simp only [List.getElem_cons_zero,List.getElem_cons_succ,List.cons.injEq,and_true] at f0 f1 f2 f3 f4 f5 f6;subst f0 f1 f2 f3 f4 f5 f6;exact ⟨⟨o0,c0,o1,c1,o2,c2,o3,c3,o4,c4,o6,c6⟩,⟨l0,l1,l2,l3,l4,v5,l6⟩,rfl,r0,r1,r2,r3,r4,r6⟩
end Go.Proofs.YtnoibjahliafpaaDoor
namespace Go.Proofs.YtnoibjahliafpaaDoor
open Go.ChangeShapes Go.WideShapes Go.ChangeAt Go.RowKit
set_option maxRecDepth 100000
variable {H:Type} {enc:TypeId × Value→H} {W:World} {base:Nat} {sp:Nat→Bool} {hd:Bool} {fuel:Nat}
theorem opens_msg:Opens enc W base sp hd 75 (fun g a l=>msgAt W.heap.size W g a l):=opens_sli Tryd.underlying75 c_int64.1 (by decide) c_int64.2 (by decide) (opens_int Tryd.underlying2)
theorem opens_msgs:Opens enc W base sp hd 59 (fun g a l=>Sli W.heap.size W g a 1 (msgAt W.heap.size W) l):=opens_sli Tryd.underlying59 (by kernel_rfl) (by decide) (bb:=24) (by kernel_rfl) (by decide) opens_msg
theorem opens_chan:Opens enc W base sp hd 61 (chanAt W.heap.size W):=by
 intro g off h;have P:=open_parts Tryd.underlying61 h;obtain ⟨x0,h0⟩:=opens_int Tryd.underlying3 _ _ (P 0 _ rfl);obtain ⟨x1,h1⟩:=opens_msgs _ _ (P 1 _ rfl);exact ⟨⟨x0,x1⟩,h0,h1⟩
theorem opens_process:Opens enc W base sp hd 63 (processAt W.heap.size W):=by
 intro g off h;have P:=open_parts Tryd.underlying63 h;obtain ⟨x0,h0⟩:=opens_int Tryd.underlying3 _ _ (P 0 _ rfl);obtain ⟨x1,h1⟩:=opens_int Tryd.underlying3 _ _ (P 1 _ rfl);obtain ⟨x2,h2⟩:=opens_int Tryd.underlying3 _ _ (P 2 _ rfl);obtain ⟨x3,h3⟩:=opens_int64s _ _ (P 3 _ rfl);exact ⟨⟨x0,x1,x2,x3⟩,h0,h1,h2,h3⟩
theorem six_of {α:Type} {l:List α} (h:l.length=6):∃a b c d e f,l= [a,b,c,d,e,f]:=by
 match l,h with
 | [a,b,c,d,e,f],_=>exact ⟨a,b,c,d,e,f,rfl⟩
theorem open_stateL {l:List Value} {y:DataW H × List MemPlace} (hl:l.length=6) (h:DataW.trod enc Tryd.prog W base sp hd fuel 33 l=some y) (hw:Fits 33 y.1):∃h s,l= (sCells h s).toList∧SD W.heap.size W h s:=by
 have P:=open_fits Tryd.underlying33 h hw;obtain ⟨n0,y0,p0,w0⟩:=P 0 _ rfl;obtain ⟨n1,y1,p1,w1⟩:=P 1 _ rfl;obtain ⟨n2,y2,p2,w2⟩:=P 2 _ rfl;obtain ⟨n3,y3,p3,w3⟩:=P 3 _ rfl;obtain ⟨n4,y4,p4,w4⟩:=P 4 _ rfl;obtain ⟨n5,y5,p5,w5⟩:=P 5 _ rfl;clear P;obtain ⟨o0,l0,c0,e0,r0⟩:=open_sli Tryd.underlying23 c_int64.1 (by decide) c_int64.2 (by decide) (opens_int Tryd.underlying2) p0 w0;obtain ⟨o1,l1,c1,e1,r1⟩:=open_sli Tryd.underlying30 (kk:=2) (by kernel_rfl) (by decide) (bb:=32) (by kernel_rfl) (by decide) opens_chan p1 w1;obtain ⟨o2,l2,c2,e2,r2⟩:=open_sli Tryd.underlying31 (kk:=4) (by kernel_rfl) (by decide) (bb:=48) (by kernel_rfl) (by decide) opens_process p2 w2;obtain ⟨v3,e3,_,_⟩:=DataW.trod_int Tryd.underlying3 p3;obtain ⟨v4,e4,_,_⟩:=DataW.trod_int Tryd.underlying3 p4;obtain ⟨v5,e5,_,_⟩:=DataW.trod_int Tryd.underlying3 p5;have f0:=(one_cs (l:=l) (o:=0) (by omega) (by kernel_rfl)).symm.trans e0;have f1:=(one_cs (l:=l) (o:=1) (by omega) (by kernel_rfl)).symm.trans e1;have f2:=(one_cs (l:=l) (o:=2) (by omega) (by kernel_rfl)).symm.trans e2;have f3:=(one_cs (l:=l) (o:=3) (by omega) (by kernel_rfl)).symm.trans e3;have f4:=(one_cs (l:=l) (o:=4) (by omega) (by kernel_rfl)).symm.trans e4;have f5:=(one_cs (l:=l) (o:=5) (by omega) (by kernel_rfl)).symm.trans e5;clear e0 e1 e2 e3 e4 e5 p0 p1 p2 p3 p4 p5 w0 w1 w2 w3 w4 w5 h hw;obtain ⟨a0,a1,a2,a3,a4,a5,rfl⟩:=six_of hl;simp only [List.getElem_cons_zero,List.getElem_cons_succ,List.cons.injEq,and_true] at f0 f1 f2 f3 f4 f5;subst f0 f1 f2 f3 f4 f5;exact ⟨⟨o0,c0,o1,c1,o2,c2⟩,⟨l0,l1,l2,v3,v4,v5⟩,rfl,r0,r1,r2⟩
theorem open_state {v:Value} {r:Reach} {b0:Nat} {d:DataW H} {p:List MemPlace} (hv:Value.okWide Tryd.prog W r b0 33 v) (h:DataW.Trod enc Tryd.prog W base sp hd 33 v d p) (hw:Fits 33 d):∃h s,v=sV h s∧SD W.heap.size W h s:=by
 obtain ⟨cs,rfl,hsz⟩:=okWide_struct Tryd.underlying33 hv;obtain ⟨l⟩:=cs;have hC:Tryd.prog.cellsOf 33=6:=by kernel_rfl
 have hl:l.length=6:=hsz.trans hC;obtain ⟨fu,hf⟩:=h;obtain ⟨hs,s,e,hsd⟩:=open_stateL hl hf hw;subst e;exact ⟨hs,s,rfl,hsd⟩
end Go.Proofs.YtnoibjahliafpaaDoor
