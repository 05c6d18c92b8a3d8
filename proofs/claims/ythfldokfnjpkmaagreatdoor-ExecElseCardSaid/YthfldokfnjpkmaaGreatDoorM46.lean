/- The Env that becomes, as a way is gone: its box, its rows. -/
import Derived.Test.YthfldokfnjpkmaaGreatDoorM44
import Derived.Test.YthfldokfnjpkmaaGreatDoorM33
set_option linter.unusedVariables false
set_option linter.unusedSimpArgs false
namespace Go.Proofs.YthfldokfnjpkmaaGreatDoor
open Go.ChangeShapes Go.WideShapes Go.ChangeAt Go.RowKit
theorem LensB.lens {s:StateD} (h:LensB s):Lens s:=
 ⟨by have:=h.g;omega,by have:=h.c;omega,by have:=h.p;omega,fun x hx=>⟨by have:=(h.q x hx).1;omega,fun y hy=>by have:=(h.q x hx).2 y hy;omega⟩,fun x hx=>by have:=h.f x hx;omega⟩
theorem Ok.lens {E:EnvD} (h:Ok E):Lens E.s:=(may_lensB h.good h.may).lens
structure Nw (w0:World) (h:MH) (ao:Option Addr) (ac:Nat) (F:EnvD) (hn:SH) (R:Nat × Nat × Nat→RowS) (W:World):Prop where
 bel:Below w0.heap.size w0 W
 box:W.heap[w0.heap.size]? =some (.cells (eCells h hn ao ac F) 36 (0,0))
 own:Own (w0.heap.size+1) W R
 spl:Spl R hn F.s
 md:MD w0.heap.size w0 h F.m
 able:Row w0.heap.size ao 1 (boolAt w0) F.able
def NwS (w0:World) (h:MH) (ao:Option Addr) (ac:Nat) (F:EnvD) (W:World):Prop:=∃hn R,Nw w0 h ao ac F hn R W
section
variable {w0 W W':World} {h:MH} {ao:Option Addr} {ac:Nat} {F:EnvD} {hn:SH} {R:Nat × Nat × Nat→RowS}
theorem Nw.below (k:Nw w0 h ao ac F hn R W) (hb:Below W.heap.size W W'):Nw w0 h ao ac F hn R W':=⟨k.bel.trans (hb.mono k.bel.size),(hb.block _ (lt_of_block k.box)).trans k.box,k.own.below hb,k.spl,k.md,k.able⟩
theorem Nw.lt (k:Nw w0 h ao ac F hn R W):w0.heap.size < W.heap.size:=lt_of_block k.box
theorem Nw.cell (k:Nw w0 h ao ac F hn R W) {i:Nat} {v:Value} (hv: (eCells h hn ao ac F)[i]? =some v):W.cell? ⟨w0.heap.size,i,none⟩=some v:=(cell_of_row _ _ _ _ _ _ k.box).trans hv
theorem Nw.frozen (k:Nw w0 h ao ac F hn R W) (i:Nat):W.frozen? ⟨w0.heap.size,i,none⟩=false:=frozen_of_row _ _ _ _ _ k.box
theorem Nw.ek (k:Nw w0 h ao ac F hn R W) (hl:Lens F.s):Ek W.heap.size W w0.heap.size h hn ao ac F:=
 Ek.ofW k.box (Nat.le_refl _) ⟨(k.md.below k.bel).lift k.bel.size,k.spl.sd k.own hl,(k.able.mono fun _ _ _ hg=>boolAt.below k.bel hg).up k.bel.size⟩
theorem Nw.store (k:Nw w0 h ao ac F hn R W) (i:Nat) (v:Value) {F':EnvD} {hn':SH} (he: (eCells h hn ao ac F).setIfInBounds i v=eCells h hn' ao ac F') (hs:Spl R hn' F'.s) (hm:F'.m=F.m) (ha:F'.able=F.able):Nw w0 h ao ac F' hn' R (W.setCell ⟨w0.heap.size,i,none⟩ v):=
 ⟨k.bel.setCell (Nat.le_refl _) _,by rw [←he];exact heap_setCell_same _ _ _ _ _ _ k.box,k.own.low _ (by show w0.heap.size < _;omega) _,hs,by rw [hm];exact k.md,by rw [ha];exact k.able⟩
end
def SetN (w0:World) (h:MH) (ao:Option Addr) (ac:Nat) (F:EnvD) (hn:SH) (R:Nat × Nat × Nat→RowS) (r:StateD × Int) (W:World) (e:Ending) (W':World):Prop:=
 e= .returned (.int .i64 r.2)∧ (r.2≠0→Below w0.heap.size w0 W')∧
 (r.2=0→∃key xs,(key.1=0∨key.1=5)∧Nw w0 h ao ac (withS F r.1) hn (upd R key ⟨(R key).e,(R key).size,(R key).v,(R key).n,xs⟩) W'∧∀ (b:Nat) (cs:Array Value) (T:TypeId) (fr:Nat × Nat),W.heap[b]? =some (.cells cs T fr)→T≠2→W'.heap[b]? =some (.cells cs T fr))
theorem setX_err {F:EnvD} {x v:Int} (h: (rslotB F (evE F) (exprNo F x)).2.2≠0):setX F x v= (F.s,(rslotB F (evE F) (exprNo F x)).2.2):=by unfold setX;rw [if_pos h]
theorem setX_ok {F:EnvD} {x v:Int} (h: (rslotB F (evE F) (exprNo F x)).2.2=0):setX F x v= (setS F (rslotB F (evE F) (exprNo F x)).1 (rslotB F (evE F) (exprNo F x)).2.1 v,0):=by unfold setX;rw [if_neg (by simp [h])]
theorem eCells_set (h:MH) (hn:SH) (ao:Option Addr) (ac:Nat) (F:EnvD) (q k v:Int):eCells h hn ao ac (withS F (setS F q k v))=eCells h hn ao ac F:=by
 unfold withS eCells setS putSlot;split <;> simp
theorem setN {w0:World} {h:MH} {ao:Option Addr} {ac:Nat} {F:EnvD} {hn:SH} {R:Nat × Nat × Nat→RowS} {p:Nat} {x:ExprD} (v:Int) (W:World) (k:Nw w0 h ao ac F hn R W) (hok:Ok F) (hx:F.m.exprs[p]? =some x):
 Calls Tryz.prog 82 #[.pointer (some ⟨w0.heap.size,0,none⟩),.int .i64 p,.int .i64 v] W (SetN w0 h ao ac F hn R (setX F p v) W):=by
 refine (setRC v W (k.ek hok.lens) hok hx k.own k.spl k.lt).mono fun e W' ⟨h1,h2,h3⟩=> ?_
 have hn':exprNo F p=x:=exprNo_get hx;by_cases h0: (rslotB F (evE F) (exprNo F p)).2.2=0
 · rw [setX_ok h0];rw [hn'] at h0 ⊢;refine ⟨by rw [h1,h0],fun h=>absurd rfl h,fun _=> ?_⟩;obtain ⟨key,xs,k1,k2,k3,k4,k5⟩:=h3 h0;refine ⟨key,xs,k1,⟨k.bel.trans ((k4.mono (Nat.le_succ _)).mono (Nat.le_refl _)), ?_,k2,k3,k.md,k.able⟩,k5⟩;rw [eCells_set];exact (k4.block _ (Nat.lt_succ_self _)).trans k.box
 · rw [setX_err h0];rw [hn'] at h0 ⊢;exact ⟨h1,fun _=>k.bel.trans ((h2 h0).mono k.bel.size),fun h=>absurd h h0⟩
end Go.Proofs.YthfldokfnjpkmaaGreatDoor
namespace Go.Proofs.YthfldokfnjpkmaaGreatDoor
open Go.ChangeShapes Go.WideShapes Go.ChangeAt Go.RowKit
section
variable {R:Nat × Nat × Nat→RowS} {hs:SH} {s:StateD} {B:Nat} {w:World}
theorem Spl.putLoc (h:Spl R hs s) {k:Nat} (hk:k < s.procs.length) (tl:Int):Spl (upd R kP ⟨(R kP).e,(R kP).size,(R kP).v,(R kP).n,(R kP).xs.set (k*4+1) (.int .i64 tl)⟩) hs (putLoc s k tl):=by
 obtain ⟨xs,hx,hi⟩:=h.p;refine ⟨?_, ?_, ?_⟩
 · rw [upd_ne _ _ (k_ne (.inl (by simp [kG,kP])))];exact h.g
 · exact IsChans.of h.c (upd_ne _ _ (k_ne (.inl (by simp [kP,kC])))) (fun i=>upd_ne _ _ (k_ne (.inl (by simp [kP,kQ])))) (fun i j=>upd_ne _ _ (k_ne (.inl (by simp [kP,kM]))))
 · refine ⟨xs.set (k*4+1) (.int .i64 tl), ?_,fun i hi'=> ?_⟩
   · rw [upd_same,hx];simp [_root_.Go.Proofs.YthfldokfnjpkmaaGreatDoor.putLoc]
   · simp only [_root_.Go.Proofs.YthfldokfnjpkmaaGreatDoor.putLoc,List.length_modify] at hi';obtain ⟨a,b,c,d,e⟩:=hi i hi';have hF:upd R kP ⟨(R kP).e,(R kP).size,(R kP).v,(R kP).n,(R kP).xs.set (k*4+1) (.int .i64 tl)⟩ (kF i)=R (kF i):=upd_ne _ _ (k_ne (.inl (by simp [kP,kF])));have hg: (s.procs.modify k (atLoc tl))[i]'(by rw [List.length_modify];exact hi')=if k=i then atLoc tl s.procs[i] else s.procs[i]:=List.getElem_modify ..
     simp only [_root_.Go.Proofs.YthfldokfnjpkmaaGreatDoor.putLoc];rw [hg,hF];have hl:k*4+1 < xs.length:=by
      by_cases hik:k=i
      · subst hik;exact (List.getElem?_eq_some_iff.1 b).1
      · obtain ⟨_,b',_⟩:=hi k hk;exact (List.getElem?_eq_some_iff.1 b').1
     by_cases hik:k=i
     · subst hik;rw [if_pos rfl];exact ⟨(set_ne' (by omega)).trans a,by rw [List.getElem?_set_self hl];rfl,(set_ne' (by omega)).trans c,(set_ne' (by omega)).trans d,e⟩
     · rw [if_neg hik];exact ⟨(set_ne' (by omega)).trans a,(set_ne' (by omega)).trans b,(set_ne' (by omega)).trans c,(set_ne' (by omega)).trans d,e⟩
theorem owns_take {e:TypeId} {size m n g c:Nat} {xs:List Value} (h:w.ownsRow B e size (.slice (some ⟨g,0,none⟩) m c) m xs) (hn:n≤m):w.ownsRow B e size (.slice (some ⟨g,0,none⟩) n c) n (xs.take (n*size)):=by
 obtain ⟨h1,h2⟩:=h;have hle:n*size≤m*size:=Nat.mul_le_mul_right _ hn;refine ⟨by rw [List.length_take,h1];omega,.inr ?_⟩;rcases h2 with ⟨h2,-⟩ | ⟨g',cap,cur,hv,hb,hh,hnc,hcm,hcs,hxs⟩
 · simp at h2
 · simp only [Value.slice.injEq,Option.some.injEq,Addr.mk.injEq,and_true,true_and] at hv;obtain ⟨rfl,rfl⟩:=hv;exact ⟨g,c,cur,rfl,hb,hh,by omega,hcm,hcs,by rw [←hxs,List.take_take,Nat.min_eq_left hle]⟩
theorem owns_cap {e:TypeId} {size m g c:Nat} {xs:List Value} (h:w.ownsRow B e size (.slice (some ⟨g,0,none⟩) m c) m xs):m≤c:=by
 rcases h.2 with ⟨h2,-⟩ | ⟨g',cap,cur,hv,hb,hh,hnc,hcm,hcs,hxs⟩
 · simp at h2
 · simp only [Value.slice.injEq,Option.some.injEq,Addr.mk.injEq,and_true,true_and] at hv;obtain ⟨rfl,rfl⟩:=hv;exact hnc
theorem Spl.cut (h:Spl R hs s) {n:Nat} (hn:n≤s.procs.length):Spl (upd R kP ⟨(R kP).e,(R kP).size,.slice hs.po n hs.pc,n,(R kP).xs.take (n*4)⟩) hs (cutS s n):=by
 obtain ⟨xs,hx,hi⟩:=h.p;refine ⟨?_, ?_, ?_⟩
 · rw [upd_ne _ _ (k_ne (.inl (by simp [kG,kP])))];exact h.g
 · exact IsChans.of h.c (upd_ne _ _ (k_ne (.inl (by simp [kP,kC])))) (fun i=>upd_ne _ _ (k_ne (.inl (by simp [kP,kQ])))) (fun i j=>upd_ne _ _ (k_ne (.inl (by simp [kP,kM]))))
 · have hl: (cutS s n).procs.length=n:=by simp [cutS];omega
   refine ⟨xs.take (n*4), ?_,fun i hi'=> ?_⟩
   · rw [upd_same,hx,hl]
   · have hin:i < n:=by rw [hl] at hi';exact hi'
     obtain ⟨a,b,c,d,e⟩:=hi i (by omega);have hF:upd R kP ⟨(R kP).e,(R kP).size,.slice hs.po n hs.pc,n,(R kP).xs.take (n*4)⟩ (kF i)=R (kF i):=upd_ne _ _ (k_ne (.inl (by simp [kP,kF])));have hg: (cutS s n).procs[i]'hi'=s.procs[i]'(by omega):=by simp [cutS]
     rw [hg,hF];have ht:∀j,j < 4→ (xs.take (n*4))[i*4+j]? =xs[i*4+j]? :=fun j hj=>List.getElem?_take_of_lt (by omega)
     exact ⟨(ht 0 (by omega)).trans a,(ht 1 (by omega)).trans b,(ht 2 (by omega)).trans c,(ht 3 (by omega)).trans d,e⟩
theorem Own.same {r:RowS} (h:Own B w R) (k:Nat × Nat × Nat) (hr:w.ownsRow B r.e r.size r.v r.n r.xs) (hb:r.v.ownBlock= (R k).v.ownBlock):Own B w (upd R k r):=by
 have key:∀q,(upd R k r q).v.ownBlock= (R q).v.ownBlock:=fun q=>by
  by_cases e:q=k
  · rw [e,upd_same,hb]
  · rw [upd_ne R _ e]
 refine ⟨fun q=> ?_,fun q q' hq g hg=> ?_⟩
 · by_cases e:q=k
   · rw [e,upd_same];exact hr
   · rw [upd_ne R _ e];exact h.row q
 · rw [key] at hg ⊢;exact h.ne q q' hq g hg
theorem procs_own (ho:Own B w R) (h:Spl R hs s) (hk:0 < s.procs.length):∃g xs,hs.po=some ⟨g,0,none⟩∧R kP= ⟨60,4,.slice (some ⟨g,0,none⟩) s.procs.length hs.pc,s.procs.length,xs⟩∧w.ownsRow B 60 4 (.slice (some ⟨g,0,none⟩) s.procs.length hs.pc) s.procs.length xs:=by
 obtain ⟨xs,hx,hi⟩:=h.p;have hr:=ho.row kP;rw [hx] at hr;dsimp only at hr;obtain ⟨g,cap,e⟩:=Joins.ownsRow_form hr (by omega);injection e with e1 e2 e3
 rw [e1] at hr;exact ⟨g,xs,e1,by rw [hx,e1],hr⟩
end
section
variable {w0 W:World} {h:MH} {ao:Option Addr} {ac:Nat} {F:EnvD} {hn:SH} {R:Nat × Nat × Nat→RowS}
theorem eCells_loc (h:MH) (hn:SH) (ao:Option Addr) (ac:Nat) (F:EnvD) (k:Nat) (tl:Int):eCells h hn ao ac (withS F (putLoc F.s k tl))=eCells h hn ao ac F:=by
 unfold withS eCells putLoc;simp
theorem Nw.loc (k:Nw w0 h ao ac F hn R W) {q:Nat} (hq:q < F.s.procs.length) (tl:Int):∃g,hn.po=some ⟨g,0,none⟩∧ (∃v,W.cell? ⟨g,q*4+1,none⟩=some v)∧W.frozen? ⟨g,q*4+1,none⟩=false∧NwS w0 h ao ac (withS F (putLoc F.s q tl)) (W.setCell ⟨g,q*4+1,none⟩ (.int .i64 tl)):=by
 obtain ⟨g,xs,e1,e2,e3⟩:=procs_own k.own k.spl (by omega);have hl:=e3.lt g rfl;have hc:=e3.cellAt (q*4+1) (by omega);have hxl:q*4+1 < xs.length:=by rw [e3.1];omega
 rw [List.getElem?_eq_getElem hxl] at hc;refine ⟨g,e1,⟨_,hc⟩,e3.frozenAt _,hn,_,k.bel.setCell (by show _≤g;omega) _, ?_,k.own.set kP (g:=g) (n:=F.s.procs.length) (c:=hn.pc) (by rw [e2]) (by rw [e2]) (q*4+1) (.int .i64 tl),k.spl.putLoc hq tl,k.md,k.able⟩;rw [eCells_loc,heap_setCell_other _ _ _ _ (by show w0.heap.size≠g;omega)];exact k.box
theorem Nw.cut (k:Nw w0 h ao ac F hn R W) {n:Nat} (hq:n < F.s.procs.length):∃g,hn.po=some ⟨g,0,none⟩∧n≤hn.pc∧NwS w0 h ao ac (withS F (cutS F.s n)) (W.setCell ⟨w0.heap.size,9,none⟩ (.slice (some ⟨g,0,none⟩) n hn.pc)):=by
 obtain ⟨g,xs,e1,e2,e3⟩:=procs_own k.own k.spl (by omega);refine ⟨g,e1,Nat.le_trans (Nat.le_of_lt hq) (owns_cap e3),hn,_,k.bel.setCell (Nat.le_refl _) _, ?_,(k.own.same kP (r:=⟨(R kP).e,(R kP).size,.slice hn.po n hn.pc,n,(R kP).xs.take (n*4)⟩) ?_ ?_).low _ (by show w0.heap.size < _;omega) _,k.spl.cut (Nat.le_of_lt hq),k.md,k.able⟩
 · rw [heap_setCell_same _ _ _ _ _ _ k.box];have hl: (F.s.procs.take n).length=n:=by simp;omega
   unfold withS eCells cutS;simp only [hl];rw [e1];rfl
 · rw [e2,e1];exact owns_take e3 (Nat.le_of_lt hq)
 · rw [e2,e1];rfl
end
def GoP (w:World) (r:StateD × ByteArray × Int) (e:Ending) (w':World):Prop:=∃h,e= .returned (.tuple #[sV h r.1,.string r.2.1,.int .i64 r.2.2])∧SO w.heap.size w' h r.1∧Below w.heap.size w w'
def DoneX (w0:World) (h:MH) (ao:Option Addr) (ac:Nat) (E:EnvD) (r:StateD × ByteArray × Int) (e:Ending) (W':World):Prop:=
 e= .returned (.tuple #[.string r.2.1,.int .i64 r.2.2])∧Below w0.heap.size w0 W'∧ (r.2.2=0→NwS w0 h ao ac (withS E r.1) W')
end Go.Proofs.YthfldokfnjpkmaaGreatDoor
