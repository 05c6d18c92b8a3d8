/- A state copied. -/
import Derived.Test.YtnoibjahliafpaaDoorM20
import Derived.Deep.RegionLaw
import Derived.RegionTactic
import Derived.Test.YtnoibjahliafpaaDoorM04
set_option linter.unusedVariables false
set_option linter.unusedSimpArgs false
namespace Go.Proofs.YtnoibjahliafpaaDoor
open Go.ChangeShapes Go.WideShapes Go.ChangeAt Go.RowKit
structure LensB (s:StateD):Prop where
 g:s.globals.length*8≤140737488355328
 c:s.chans.length*32≤140737488355328
 p:s.procs.length*48≤140737488355328
 q:∀x ∈ s.chans,x.queue.length*24≤140737488355328∧∀y ∈ x.queue,y.length*8≤140737488355328
 f:∀x ∈ s.procs,x.frame.length*8≤140737488355328
def OI (w0:World) (s:StateD) (gv:Value) (co:Option Addr) (cc:Nat) (pv:Value) (X0:List Value) (i:Nat) (W:World):Prop:=
 ∃R xs,Cp w0 s gv (.slice co s.chans.length cc) pv R W∧R kG= ⟨2,1,gv,s.globals.length,intsV s.globals⟩∧R kC= ⟨61,2,.slice co s.chans.length cc,s.chans.length,xs⟩∧
  (∀j (hj:j < s.chans.length),j < i→ChOk R xs j s.chans[j])∧∀j,i≤j→xs[j*2]? =X0[j*2]? ∧xs[j*2+1]? =X0[j*2+1]?
def II (w0:World) (s:StateD) (gv:Value) (co:Option Addr) (cc:Nat) (pv:Value) (X0:List Value) (i:Nat) (c:ChanD) (qo:Option Addr) (qc:Nat) (Y0:List Value) (k:Nat) (W:World):Prop:=
 ∃R xs ys,Cp w0 s gv (.slice co s.chans.length cc) pv R W∧R kG= ⟨2,1,gv,s.globals.length,intsV s.globals⟩∧R kC= ⟨61,2,.slice co s.chans.length cc,s.chans.length,xs⟩∧
  (∀j (hj:j < s.chans.length),j < i→ChOk R xs j s.chans[j])∧ (∀j,i < j→xs[j*2]? =X0[j*2]? ∧xs[j*2+1]? =X0[j*2+1]?)∧
  xs[i*2]? =some (.int .i64 c.shape)∧xs[i*2+1]? =some (.slice qo c.queue.length qc)∧R (kQ i)= ⟨75,1,.slice qo c.queue.length qc,c.queue.length,ys⟩∧
  (∀j (hj:j < c.queue.length),j < k→ys[j]? =some (R (kM i j)).v∧IsInts (R (kM i j)) c.queue[j])∧∀j,k≤j→ys[j]? =Y0[j]?
section
variable {w0 W W1:World} {s:StateD} {gv pv:Value} {co:Option Addr} {cc:Nat} {X0:List Value} {i:Nat}
theorem set_ne' {l:List Value} {i j:Nat} {u:Value} (h:i≠j): (l.set i u)[j]? =l[j]? :=List.getElem?_set_ne h
theorem OI.enter (h:OI w0 s gv co cc pv X0 i W) (hi:i < s.chans.length) {gc:Nat} (hco:co=some ⟨gc,0,none⟩) {mo:Option Addr} {mc:Nat} {Y0:List Value} (h0:X0[i*2]? =some (.int .i64 s.chans[i].shape)) (h1:X0[i*2+1]? =some (.slice mo s.chans[i].queue.length mc))
 (hb:Below W.heap.size W W1) {qo:Option Addr} {qc:Nat} (hr:W1.ownsRow W.heap.size 75 1 (.slice qo s.chans[i].queue.length qc) s.chans[i].queue.length Y0):
 II w0 s gv co cc pv X0 i s.chans[i] qo qc Y0 0 (W1.setCell ⟨gc,i*2+1,none⟩ (.slice qo s.chans[i].queue.length qc)):=by
 obtain ⟨R,xs,hc,hG,hC,hd,hl⟩:=h;have hx:=hl i (Nat.le_refl _);have hcp:=hc.cell hb (kQ i) ⟨75,1,.slice qo s.chans[i].queue.length qc,s.chans[i].queue.length,Y0⟩ hr (by dsimp only;decide) (k2:=kC) (k_ne (.inl (by simp [kG,kC,kP,kQ,kM,kF]))) (g:=gc) (n:=s.chans.length) (c:=cc) (by rw [hC,hco]) (by rw [hC]) (i*2+1) (.slice qo s.chans[i].queue.length qc);have hxl:=(hc.own.row kC).1;rw [hC] at hxl hcp;dsimp only at hxl hcp;refine ⟨_,xs.set (i*2+1) (.slice qo s.chans[i].queue.length qc),Y0,hcp, ?_, ?_, ?_, ?_, ?_, ?_, ?_, ?_, ?_⟩
 · rw [upd_ne _ _ (k_ne (.inl (by simp [kG,kC,kP,kQ,kM,kF]))),upd_ne _ _ (k_ne (.inl (by simp [kG,kC,kP,kQ,kM,kF])))];exact hG
 · rw [upd_same]
 · intro j hj hji;refine (hd j hj hji).of ?_ (fun k=> ?_) (set_ne' (by omega)) (set_ne' (by omega))
   · rw [upd_ne _ _ (k_ne (.inl (by simp [kG,kC,kP,kQ,kM,kF]))),upd_ne _ _ (k_ne (.inr (.inl (by simp only [kQ,kM,kF];omega))))]
   · rw [upd_ne _ _ (k_ne (.inl (by simp [kG,kC,kP,kQ,kM,kF]))),upd_ne _ _ (k_ne (.inl (by simp [kG,kC,kP,kQ,kM,kF])))]
 · intro j hj;rw [set_ne' (by omega),set_ne' (by omega)];exact hl j (by omega)
 · rw [set_ne' (by omega),hx.1,h0]
 · rw [List.getElem?_set_self (by omega)]
 · rw [upd_ne _ _ (k_ne (.inl (by simp [kG,kC,kP,kQ,kM,kF]))),upd_same]
 · intro j hj hk;omega
 · intro j hj;rfl
theorem II.step {c:ChanD} {qo:Option Addr} {qc k:Nat} {Y0:List Value} (h:II w0 s gv co cc pv X0 i c qo qc Y0 k W) (hk:k < c.queue.length) {gq:Nat} (hqo:qo=some ⟨gq,0,none⟩) (hb:Below W.heap.size W W1) {no:Option Addr} {nc:Nat} (hr:W1.ownsRow W.heap.size 2 1 (.slice no c.queue[k].length nc) c.queue[k].length (intsV c.queue[k])):
 II w0 s gv co cc pv X0 i c qo qc Y0 (k+1) (W1.setCell ⟨gq,k,none⟩ (.slice no c.queue[k].length nc)):=by
 obtain ⟨R,xs,ys,hc,hG,hC,hd,hl,x0,x1,hQ,hm,hy⟩:=h;have hcp:=hc.cell hb (kM i k) ⟨2,1,.slice no c.queue[k].length nc,c.queue[k].length,intsV c.queue[k]⟩ hr (by dsimp only;decide) (k2:=kQ i) (k_ne (.inl (by simp [kG,kC,kP,kQ,kM,kF]))) (g:=gq) (n:=c.queue.length) (c:=qc) (by rw [hQ,hqo]) (by rw [hQ]) k (.slice no c.queue[k].length nc);have hyl:=(hc.own.row (kQ i)).1;rw [hQ] at hyl hcp;dsimp only at hyl hcp;refine ⟨_,xs,ys.set k (.slice no c.queue[k].length nc),hcp, ?_, ?_, ?_,hl,x0,x1, ?_, ?_, ?_⟩
 · rw [upd_ne _ _ (k_ne (.inl (by simp [kG,kC,kP,kQ,kM,kF]))),upd_ne _ _ (k_ne (.inl (by simp [kG,kC,kP,kQ,kM,kF])))];exact hG
 · rw [upd_ne _ _ (k_ne (.inl (by simp [kG,kC,kP,kQ,kM,kF]))),upd_ne _ _ (k_ne (.inl (by simp [kG,kC,kP,kQ,kM,kF])))];exact hC
 · intro j hj hji;refine (hd j hj hji).of ?_ (fun k=> ?_) rfl rfl
   · rw [upd_ne _ _ (k_ne (.inr (.inl (by simp only [kQ,kM,kF];omega)))),upd_ne _ _ (k_ne (.inl (by simp [kG,kC,kP,kQ,kM,kF])))]
   · rw [upd_ne _ _ (k_ne (.inl (by simp [kG,kC,kP,kQ,kM,kF]))),upd_ne _ _ (k_ne (.inr (.inl (by simp only [kQ,kM,kF];omega))))]
 · rw [upd_same]
 · intro j hj hjk;by_cases e:j=k
   · subst e;rw [List.getElem?_set_self (by omega),upd_ne _ _ (k_ne (.inl (by simp [kG,kC,kP,kQ,kM,kF]))),upd_same];exact ⟨rfl,no,nc,rfl⟩
   · rw [set_ne' (by omega),upd_ne _ _ (k_ne (.inl (by simp [kG,kC,kP,kQ,kM,kF]))),upd_ne _ _ (k_ne (.inr (.inr (by simp only [kQ,kM,kF];omega))))];exact hm j hj (by omega)
 · intro j hj;rw [set_ne' (by omega)];exact hy j (by omega)
theorem II.leave {qo:Option Addr} {qc:Nat} {Y0:List Value} (hi:i < s.chans.length) (h:II w0 s gv co cc pv X0 i s.chans[i] qo qc Y0 s.chans[i].queue.length W):OI w0 s gv co cc pv X0 (i+1) W:=by
 obtain ⟨R,xs,ys,hc,hG,hC,hd,hl,x0,x1,hQ,hm,hy⟩:=h;refine ⟨R,xs,hc,hG,hC,fun j hj hji=> ?_,fun j hj=>hl j (by omega)⟩;by_cases e:j=i
 · subst e;exact ⟨x0,by rw [hQ];exact x1,qo,qc,ys,hQ,fun k hk=>hm k hk hk⟩
 · exact hd j hj (by omega)
theorem OI.drew (h:OI w0 s gv co cc pv X0 i W):OI w0 s gv co cc pv X0 i W.drew:=by
 obtain ⟨R,xs,hc,h2⟩:=h;exact ⟨R,xs,hc.drew,h2⟩
theorem II.drew {c:ChanD} {qo:Option Addr} {qc k:Nat} {Y0:List Value} (h:II w0 s gv co cc pv X0 i c qo qc Y0 k W):II w0 s gv co cc pv X0 i c qo qc Y0 k W.drew:=by
 obtain ⟨R,xs,ys,hc,h2⟩:=h;exact ⟨R,xs,ys,hc.drew,h2⟩
theorem OI.bel (h:OI w0 s gv co cc pv X0 i W):Below w0.heap.size w0 W:=by obtain ⟨R,xs,hc,h2⟩:=h;exact hc.bel
theorem II.bel {c:ChanD} {qo:Option Addr} {qc k:Nat} {Y0:List Value} (h:II w0 s gv co cc pv X0 i c qo qc Y0 k W):Below w0.heap.size w0 W:=by obtain ⟨R,xs,ys,hc,h2⟩:=h;exact hc.bel
theorem OI.box (h:OI w0 s gv co cc pv X0 i W):W.heap[w0.heap.size]? =some (.cells #[gv,.slice co s.chans.length cc,pv,.int .i64 s.last,.int .i64 s.alone,.int .i64 s.claim] 33 (0,0)):=by obtain ⟨R,xs,hc,h2⟩:=h;exact hc.box
theorem II.box {c:ChanD} {qo:Option Addr} {qc k:Nat} {Y0:List Value} (h:II w0 s gv co cc pv X0 i c qo qc Y0 k W):W.heap[w0.heap.size]? =some (.cells #[gv,.slice co s.chans.length cc,pv,.int .i64 s.last,.int .i64 s.alone,.int .i64 s.claim] 33 (0,0)):=by obtain ⟨R,xs,ys,hc,h2⟩:=h;exact hc.box
theorem OI.form (h:OI w0 s gv co cc pv X0 i W) (hi:i < s.chans.length):∃g,co=some ⟨g,0,none⟩:=by
 obtain ⟨R,xs,hc,hG,hC,-⟩:=h;have hr:=hc.own.row kC;rw [hC] at hr;obtain ⟨g,cap,e⟩:=Joins.ownsRow_form hr (by dsimp only;omega);injection e with e1
 exact ⟨g,e1⟩
theorem OI.at (h:OI w0 s gv co cc pv X0 i W) (hi:i < s.chans.length) {g:Nat} (hco:co=some ⟨g,0,none⟩):g < W.heap.size∧W.cell? ⟨g,i*2+1,none⟩=X0[i*2+1]? ∧W.frozen? ⟨g,i*2+1,none⟩=false:=by
 obtain ⟨R,xs,hc,hG,hC,hd,hl⟩:=h;have hr:=hc.own.row kC;rw [hC] at hr;dsimp only at hr;subst hco;exact ⟨(hr.lt g rfl).2,(hr.cellAt _ (by omega)).trans (hl i (Nat.le_refl _)).2,hr.frozenAt _⟩
theorem II.form {c:ChanD} {qo:Option Addr} {qc k:Nat} {Y0:List Value} (h:II w0 s gv co cc pv X0 i c qo qc Y0 k W) (hk:k < c.queue.length):∃g,qo=some ⟨g,0,none⟩:=by
 obtain ⟨R,xs,ys,hc,hG,hC,hd,hl,x0,x1,hQ,hm,hy⟩:=h;have hr:=hc.own.row (kQ i);rw [hQ] at hr;obtain ⟨g,cap,e⟩:=Joins.ownsRow_form hr (by dsimp only;omega);injection e with e1
 exact ⟨g,e1⟩
theorem II.at {c:ChanD} {qo:Option Addr} {qc k:Nat} {Y0:List Value} (h:II w0 s gv co cc pv X0 i c qo qc Y0 k W) (hk:k < c.queue.length) {g:Nat} (hqo:qo=some ⟨g,0,none⟩):g < W.heap.size∧W.cell? ⟨g,k,none⟩=Y0[k]? ∧W.frozen? ⟨g,k,none⟩=false:=by
 obtain ⟨R,xs,ys,hc,hG,hC,hd,hl,x0,x1,hQ,hm,hy⟩:=h;have hr:=hc.own.row (kQ i);rw [hQ] at hr;dsimp only at hr;subst hqo;exact ⟨(hr.lt g rfl).2,(hr.cellAt _ (by omega)).trans (hy k (Nat.le_refl _)),hr.frozenAt _⟩
theorem II.chan {c:ChanD} {qo:Option Addr} {qc k:Nat} {Y0:List Value} (h:II w0 s gv co cc pv X0 i c qo qc Y0 k W) (hi:i < s.chans.length) {g:Nat} (hco:co=some ⟨g,0,none⟩):g < W.heap.size∧W.cell? ⟨g,i*2+1,none⟩=some (.slice qo c.queue.length qc):=by
 obtain ⟨R,xs,ys,hc,hG,hC,hd,hl,x0,x1,hQ,hm,hy⟩:=h;have hr:=hc.own.row kC;rw [hC] at hr;dsimp only at hr;subst hco;exact ⟨(hr.lt g rfl).2,(hr.cellAt _ (by omega)).trans x1⟩
end
def PI (w0:World) (s:StateD) (gv:Value) (co:Option Addr) (cc:Nat) (po:Option Addr) (pc:Nat) (X0:List Value) (i:Nat) (W:World):Prop:=
 ∃R xs,Cp w0 s gv (.slice co s.chans.length cc) (.slice po s.procs.length pc) R W∧R kG= ⟨2,1,gv,s.globals.length,intsV s.globals⟩∧IsChans R co cc s.chans∧
  R kP= ⟨63,4,.slice po s.procs.length pc,s.procs.length,xs⟩∧ (∀j (hj:j < s.procs.length),j < i→PrOk R xs j s.procs[j])∧∀j,i≤j→xs[j*4]? =X0[j*4]? ∧xs[j*4+1]? =X0[j*4+1]? ∧xs[j*4+2]? =X0[j*4+2]? ∧xs[j*4+3]? =X0[j*4+3]?
section
variable {w0 W W1:World} {s:StateD} {gv pv:Value} {co po:Option Addr} {cc pc:Nat} {X0:List Value} {i:Nat}
theorem IsChans.of {R R':Nat × Nat × Nat→RowS} {l:List ChanD} (h:IsChans R co cc l) (h1:R' kC=R kC) (h2:∀i,R' (kQ i)=R (kQ i)) (h3:∀i j,R' (kM i j)=R (kM i j)):IsChans R' co cc l:=by
 obtain ⟨xs,hx,hi⟩:=h;refine ⟨xs,h1.trans hx,fun i hi'=> ?_⟩;obtain ⟨a,b,o,c,ys,hq,hm⟩:=hi i hi';exact ⟨a,by rw [h2];exact b,o,c,ys,(h2 i).trans hq,fun j hj=>by rw [h3];exact hm j hj⟩
theorem OI.procs (h:OI w0 s gv co cc pv X0 s.chans.length W) (hb:Below W.heap.size W W1) {Y0:List Value} (hr:W1.ownsRow W.heap.size 63 4 (.slice po s.procs.length pc) s.procs.length Y0):PI w0 s gv co cc po pc Y0 0 (W1.setCell ⟨w0.heap.size,2,none⟩ (.slice po s.procs.length pc)):=by
 obtain ⟨R,xs,hc,hG,hC,hd,hl⟩:=h;refine ⟨_,Y0,hc.head hb kP ⟨63,4,.slice po s.procs.length pc,s.procs.length,Y0⟩ hr (by dsimp only;decide) 2 rfl, ?_, ?_, ?_,fun j hj hji=>by omega,fun j hj=>⟨rfl,rfl,rfl,rfl⟩⟩
 · rw [upd_ne _ _ (k_ne (.inl (by simp [kG,kC,kP,kQ,kM,kF])))];exact hG
 · refine IsChans.of (R:=R) ⟨xs,hC,fun j hj=>hd j hj hj⟩ ?_ (fun i=> ?_) (fun i j=> ?_)
   all_goals exact upd_ne _ _ (k_ne (.inl (by simp [kG,kC,kP,kQ,kM,kF])))
 · rw [upd_same]
theorem PI.step (h:PI w0 s gv co cc po pc X0 i W) (hi:i < s.procs.length) {gp:Nat} (hpo:po=some ⟨gp,0,none⟩) (h0:X0[i*4]? =some (.int .i64 s.procs[i].type)) (h1:X0[i*4+1]? =some (.int .i64 s.procs[i].loc)) (h2:X0[i*4+2]? =some (.int .i64 s.procs[i].prio))
 (hb:Below W.heap.size W W1) {fo:Option Addr} {fc:Nat} (hr:W1.ownsRow W.heap.size 2 1 (.slice fo s.procs[i].frame.length fc) s.procs[i].frame.length (intsV s.procs[i].frame)):
 PI w0 s gv co cc po pc X0 (i+1) (W1.setCell ⟨gp,i*4+3,none⟩ (.slice fo s.procs[i].frame.length fc)):=by
 obtain ⟨R,xs,hc,hG,hC,hP,hd,hl⟩:=h;have hx:=hl i (Nat.le_refl _);have hcp:=hc.cell hb (kF i) ⟨2,1,.slice fo s.procs[i].frame.length fc,s.procs[i].frame.length,intsV s.procs[i].frame⟩ hr (by dsimp only;decide) (k2:=kP) (k_ne (.inl (by simp [kG,kC,kP,kQ,kM,kF]))) (g:=gp) (n:=s.procs.length) (c:=pc) (by rw [hP,hpo]) (by rw [hP]) (i*4+3) (.slice fo s.procs[i].frame.length fc);have hxl:=(hc.own.row kP).1;rw [hP] at hxl hcp;dsimp only at hxl hcp;refine ⟨_,xs.set (i*4+3) (.slice fo s.procs[i].frame.length fc),hcp, ?_, ?_, ?_, ?_, ?_⟩
 · rw [upd_ne _ _ (k_ne (.inl (by simp [kG,kC,kP,kQ,kM,kF]))),upd_ne _ _ (k_ne (.inl (by simp [kG,kC,kP,kQ,kM,kF])))];exact hG
 · refine hC.of ?_ (fun i=> ?_) (fun i j=> ?_)
   all_goals rw [upd_ne _ _ (k_ne (.inl (by simp [kG,kC,kP,kQ,kM,kF]))),upd_ne _ _ (k_ne (.inl (by simp [kG,kC,kP,kQ,kM,kF])))]
 · rw [upd_same]
 · intro j hj hji;by_cases e:j=i
   · subst e;refine ⟨?_, ?_, ?_, ?_, ?_⟩
     · rw [set_ne' (by omega),hx.1,h0]
     · rw [set_ne' (by omega),hx.2.1,h1]
     · rw [set_ne' (by omega),hx.2.2.1,h2]
     · rw [List.getElem?_set_self (by omega),upd_ne _ _ (k_ne (.inl (by simp [kG,kC,kP,kQ,kM,kF]))),upd_same]
     · rw [upd_ne _ _ (k_ne (.inl (by simp [kG,kC,kP,kQ,kM,kF]))),upd_same];exact ⟨fo,fc,rfl⟩
   · refine (hd j hj (by omega)).of ?_ (set_ne' (by omega)) (set_ne' (by omega)) (set_ne' (by omega)) (set_ne' (by omega));rw [upd_ne _ _ (k_ne (.inl (by simp [kG,kC,kP,kQ,kM,kF]))),upd_ne _ _ (k_ne (.inr (.inl (by simp only [kQ,kM,kF];omega))))]
 · intro j hj;rw [set_ne' (by omega),set_ne' (by omega),set_ne' (by omega),set_ne' (by omega)];exact hl j (by omega)
theorem PI.drew (h:PI w0 s gv co cc po pc X0 i W):PI w0 s gv co cc po pc X0 i W.drew:=by
 obtain ⟨R,xs,hc,h2⟩:=h;exact ⟨R,xs,hc.drew,h2⟩
theorem PI.bel (h:PI w0 s gv co cc po pc X0 i W):Below w0.heap.size w0 W:=by obtain ⟨R,xs,hc,h2⟩:=h;exact hc.bel
theorem PI.box (h:PI w0 s gv co cc po pc X0 i W):W.heap[w0.heap.size]? =some (.cells #[gv,.slice co s.chans.length cc,.slice po s.procs.length pc,.int .i64 s.last,.int .i64 s.alone,.int .i64 s.claim] 33 (0,0)):=by obtain ⟨R,xs,hc,h2⟩:=h;exact hc.box
theorem PI.res (h:PI w0 s gv co cc po pc X0 i W):W.heap[w0.heap.size+1]? =some (.cells #[.slice none 0 0,.slice none 0 0,.slice none 0 0,.int .i64 0,.int .i64 0,.int .i64 0] 33 (0,0)):=by obtain ⟨R,xs,hc,h2⟩:=h;exact hc.res
theorem PI.form (h:PI w0 s gv co cc po pc X0 i W) (hi:i < s.procs.length):∃g,po=some ⟨g,0,none⟩:=by
 obtain ⟨R,xs,hc,hG,hC,hP,-⟩:=h;have hr:=hc.own.row kP;rw [hP] at hr;obtain ⟨g,cap,e⟩:=Joins.ownsRow_form hr (by dsimp only;omega);injection e with e1
 exact ⟨g,e1⟩
theorem PI.at (h:PI w0 s gv co cc po pc X0 i W) (hi:i < s.procs.length) {g:Nat} (hpo:po=some ⟨g,0,none⟩):g < W.heap.size∧W.cell? ⟨g,i*4+3,none⟩=X0[i*4+3]? ∧W.frozen? ⟨g,i*4+3,none⟩=false:=by
 obtain ⟨R,xs,hc,hG,hC,hP,hd,hl⟩:=h;have hr:=hc.own.row kP;rw [hP] at hr;dsimp only at hr;subst hpo;exact ⟨(hr.lt g rfl).2,(hr.cellAt _ (by omega)).trans (hl i (Nat.le_refl _)).2.2.2,hr.frozenAt _⟩
theorem PI.so {go:Option Addr} {gc:Nat} (h:PI w0 s (.slice go s.globals.length gc) co cc po pc X0 s.procs.length W):SO w0.heap.size W ⟨go,gc,co,cc,po,pc⟩ s:=by
 obtain ⟨R,xs,hc,hG,hC,hP,hd,hl⟩:=h;exact ⟨R,hc.own,⟨hG,hC,xs,hP,fun j hj=>hd j hj hj⟩⟩
theorem PI.done {go:Option Addr} {gc:Nat} (h:PI w0 s (.slice go s.globals.length gc) co cc po pc X0 s.procs.length W) (v0 v1 v2 v3 v4 v5:Value):
 SO w0.heap.size ((((((W.setCell ⟨w0.heap.size+1,0,none⟩ v0).setCell ⟨w0.heap.size+1,1,none⟩ v1).setCell ⟨w0.heap.size+1,2,none⟩ v2).setCell ⟨w0.heap.size+1,3,none⟩ v3).setCell ⟨w0.heap.size+1,4,none⟩ v4).setCell ⟨w0.heap.size+1,5,none⟩ v5) ⟨go,gc,co,cc,po,pc⟩ s∧
 Below w0.heap.size w0 ((((((W.setCell ⟨w0.heap.size+1,0,none⟩ v0).setCell ⟨w0.heap.size+1,1,none⟩ v1).setCell ⟨w0.heap.size+1,2,none⟩ v2).setCell ⟨w0.heap.size+1,3,none⟩ v3).setCell ⟨w0.heap.size+1,4,none⟩ v4).setCell ⟨w0.heap.size+1,5,none⟩ v5):=by
 obtain ⟨R,xs,hc,hG,hC,hP,hd,hl⟩:=h;have hne:∀k,(R k).v.ownBlock≠some (w0.heap.size+1):=fun k=>owns_neObj (hc.own.row k) hc.res (hc.ty k)
 refine ⟨⟨R,((((((hc.own.other _ _ hne).other _ _ hne).other _ _ hne).other _ _ hne).other _ _ hne).other _ _ hne),hG,hC,xs,hP,fun j hj=>hd j hj hj⟩, ?_⟩;exact (((((hc.bel.setCell (by simp) _).setCell (by simp) _).setCell (by simp) _).setCell (by simp) _).setCell (by simp) _).setCell (by simp) _
end
theorem SO.otherT {B:Nat} {w:World} {h:SH} {s:StateD} {R:Nat × Nat × Nat→RowS} (ho:Own B w R) (hs:Spl R h s) {b:Nat} {cs:Array Value} {T:TypeId} {fr:Nat × Nat} (hb:w.heap[b]? =some (.cells cs T fr)) (hT:∀k,(R k).e≠T) (i:Nat) (u:Value):SO B (w.setCell ⟨b,i,none⟩ u) h s:=⟨R,ho.otherT hb hT i u,hs⟩
end Go.Proofs.YtnoibjahliafpaaDoor
namespace Go.Proofs.YtnoibjahliafpaaDoor
open Go.ChangeShapes Go.WideShapes Go.ChangeAt Go.RowKit
theorem OI.start {w0 W1 W2 W3 W4:World} {s:StateD} {hs:SH} {go co:Option Addr} {gc cc:Nat} {X0:List Value}
 (e1:W1= (w0.alloc (.cells (sCells hs s) 33)).alloc (.cells #[.slice none 0 0,.slice none 0 0,.slice none 0 0,.int .i64 0,.int .i64 0,.int .i64 0] 33))
 (hb2:Below W1.heap.size W1 W2) (hr2:W2.ownsRow W1.heap.size 2 1 (.slice go s.globals.length gc) s.globals.length (intsV s.globals))
 (e3:W3=W2.setCell ⟨w0.heap.size,0,none⟩ (.slice go s.globals.length gc))
 (hb4:Below W3.heap.size W3 W4) (hr4:W4.ownsRow W3.heap.size 61 2 (.slice co s.chans.length cc) s.chans.length X0):
 OI w0 s (.slice go s.globals.length gc) co cc (.slice hs.po s.procs.length hs.pc) X0 0 (W4.setCell ⟨w0.heap.size,1,none⟩ (.slice co s.chans.length cc)):=by
 have k1:W1.heap[w0.heap.size]? =some (.cells (sCells hs s) 33 (0,0)):=by rw [e1];exact (Below.heap_alloc _ _ _ (by simp)).trans (heap_alloc_new _ _)
 have k2:W1.heap[w0.heap.size+1]? =some (.cells #[.slice none 0 0,.slice none 0 0,.slice none 0 0,.int .i64 0,.int .i64 0,.int .i64 0] 33 (0,0)):=by
  have h:=heap_alloc_new (w0.alloc (.cells (sCells hs s) 33)) (.cells #[.slice none 0 0,.slice none 0 0,.slice none 0 0,.int .i64 0,.int .i64 0,.int .i64 0] 33);rw [World.size_alloc] at h;rw [e1];exact h
 have hbel:Below w0.heap.size w0 W1:=by rw [e1];exact ((Below.refl _ _).alloc (Nat.le_refl _) _).alloc (by simp) _
 have c0:Cp w0 s (.slice hs.go s.globals.length hs.gc) (.slice hs.co s.chans.length hs.cc) (.slice hs.po s.procs.length hs.pc) (fun _=>rowNil) W1:=⟨Own.nil _ _,fun _=>by simp [rowNil],k1,k2,hbel⟩;have c1:=c0.head hb2 kG ⟨2,1,.slice go s.globals.length gc,s.globals.length,intsV s.globals⟩ hr2 (by dsimp only;decide) 0 (gv':= .slice go s.globals.length gc) rfl;dsimp only at c1;rw [←e3] at c1;have c2:=c1.head hb4 kC ⟨61,2,.slice co s.chans.length cc,s.chans.length,X0⟩ hr4 (by dsimp only;decide) 1 (cv':= .slice co s.chans.length cc) rfl;refine ⟨_,X0,c2, ?_, ?_,fun j hj hji=>by omega,fun j _=>⟨rfl,rfl⟩⟩
 · rw [upd_ne _ _ (k_ne (.inl (by simp [kG,kC]))),upd_same]
 · rw [upd_same]
def CopyP (B:Nat) (w:World) (s:StateD) (e:Ending) (w':World):Prop:=∃h,e= .returned (sV h s)∧SO w.heap.size w' h s∧Below w.heap.size w w'
end Go.Proofs.YtnoibjahliafpaaDoor
namespace Go.Proofs.YtnoibjahliafpaaDoor
open Go.ChangeShapes Go.WideShapes Go.ChangeAt Go.RowKit
theorem two_step (k:Nat): (2:Int)*2 ^ k=2 ^ (k+1):=by rw [Int.pow_succ];omega
theorem pow_small (k:Nat) (h:k≤32): (2:Int) ^ k≤4294967296∧0 < (2:Int) ^ k:=by
 refine ⟨?_,Int.pow_pos (by decide)⟩;have h1:=Nat.pow_le_pow_right (n:=2) (by decide) h;have h2: (2:Int) ^ k≤2 ^ 32:=by exact_mod_cast h1
 have h3: (2:Int) ^ 32=4294967296:=by decide
 omega
end Go.Proofs.YtnoibjahliafpaaDoor
