/- The program's reader of a state: a state, walked. -/
import Derived.Test.YtnoibjahliafpaaDoorM27
set_option linter.unusedVariables false
set_option linter.unusedSimpArgs false
namespace Go.Proofs.YtnoibjahliafpaaDoor
open Go.ChangeShapes Go.WideShapes Go.ChangeAt Go.RowKit
structure SL (W0:World) (rb mb lb sb ob:Nat) (h:MH) (m:ModelD) (s:StateD) (hs:SH) (r:RdS) (W:World):Prop where
 gr:W.ownsRow W0.heap.size 2 1 (.slice hs.go s.globals.length hs.gc) s.globals.length (intsV s.globals)
 cr:CR W0.heap.size W hs.co hs.cc s.chans
 pr:PRr W0.heap.size W hs.po hs.pc s.procs
 s:W.heap[sb]? =some (.cells (sCells hs s) 33 (0,0))
 o:W.heap[ob]? =some (.cells #[.slice none 0 0,.slice none 0 0,.slice none 0 0,.int .i64 0,.int .i64 0,.int .i64 0] 33 (0,0))
 x:RX rb mb lb r W
 m:RM rb mb lb h m W
 g:W0.grownBy W (some rb)
 rl:rb < W0.heap.size
 sl:W0.heap.size≤sb
 ol:W0.heap.size≤ob
 ne:ob≠sb
section
variable {W0 W W1 W3:World} {rb mb lb sb ob:Nat} {h:MH} {m:ModelD} {s:StateD} {hs:SH} {r r1:RdS} {ob':Obj}
theorem SL.below (k:SL W0 rb mb lb sb ob h m s hs r W) (hb:Below W.heap.size W W1):SL W0 rb mb lb sb ob h m s hs r W1:=
 ⟨owns_below k.gr hb,k.cr.below hb,k.pr.below hb,(hb.block _ (lt_of_block k.s)).trans k.s,(hb.block _ (lt_of_block k.o)).trans k.o,k.x.below hb,k.m.below k.x.lt hb,gb_trans k.g (gb_below hb),k.rl,k.sl,k.ol,k.ne⟩
theorem SL.read (k:SL W0 rb mb lb sb ob h m s hs r W) (hx:RX rb mb lb r1 W1) (hg:W.grownBy W1 (some rb)):SL W0 rb mb lb sb ob h m s hs r1 W1:=
 have h1:=k.rl;have h2:=k.sl;have h3:=k.ol
 ⟨k.gr.kept hg (.inr fun e=>by have:=(k.gr.lt _ e).1;omega),k.cr.gb hg h1,k.pr.gb hg h1,gb_heap hg k.s (by omega),gb_heap hg k.o (by omega),hx,k.m.gb k.x.lt hg,gb_trans k.g hg,k.rl,k.sl,k.ol,k.ne⟩
theorem SL.cell (k:SL W0 rb mb lb sb ob h m s hs r W) {i:Nat} {v:Value} (hv: (sCells hs s)[i]? =some v):W.cell? ⟨sb,i,none⟩=some v:=(cell_of_row _ _ _ _ _ _ k.s).trans hv
theorem SL.mne (k:SL W0 rb mb lb sb ob h m s hs r W):mb≠sb:=fun e=>by
 have:=k.m.box;rw [e,k.s] at this;simp at this
theorem SL.sset (k:SL W0 rb mb lb sb ob h m s hs r W) (i:Nat) (v:Value) {s':StateD} {hs':SH} (he: (sCells hs s).setIfInBounds i v=sCells hs' s') (h1:s'.globals=s.globals) (h2:s'.chans=s.chans) (h3:s'.procs=s.procs) (h4:hs'=hs):SL W0 rb mb lb sb ob h m s' hs' r (W.setCell ⟨sb,i,none⟩ v):=by
 have hg:=gb_set W sb i v;have q1:=k.rl;have q2:=k.sl;subst h4;refine ⟨?_, ?_, ?_, ?_,gb_heap hg k.o k.ne,k.x.other hg (by omega),k.m.other (by omega) k.mne (lt_of_block k.s) hg,gb_mono k.g hg k.sl,k.rl,k.sl,k.ol,k.ne⟩
 · rw [h1];exact owns_set k.gr _ _ (owns_neObj k.gr k.s (by simp))
 · rw [h2];exact k.cr.set k.s i v
 · rw [h3];exact k.pr.set k.s i v
 · rw [←he];exact heap_setCell_same _ _ _ _ _ _ k.s
theorem SL.cstep {xs:List Value} {x:ChanD} {qo:Option Addr} {qc:Nat} {co':Option Addr} {cc':Nat} (k:SL W0 rb mb lb sb ob h m s hs r W) (hq:W.ownsRow W0.heap.size 61 2 (.slice hs.co s.chans.length hs.cc) s.chans.length xs)
 (hqm:∀i (hi:i < s.chans.length),xs[i*2]? =some (.int .i64 s.chans[i].shape)∧∃qo qc,xs[i*2+1]? =some (.slice qo s.chans[i].queue.length qc)∧QR W0.heap.size W qo qc s.chans[i].queue) (hx:QR W0.heap.size W qo qc x.queue)
 (hg: (W.alloc ob').grownBy W3 (Value.slice hs.co s.chans.length hs.cc).ownBlock) (hr:W3.ownsRow W0.heap.size 61 2 (.slice co' (s.chans.length+1) cc') (s.chans.length+1) (xs ++ [.int .i64 x.shape,.slice qo x.queue.length qc])):
 SL W0 rb mb lb sb ob h m ⟨s.globals,s.chans ++ [x],s.procs,s.last,s.alone,s.claim⟩ ⟨hs.go,hs.gc,co',cc',hs.po,hs.pc⟩ r (W3.setCell ⟨sb,1,none⟩ (.slice co' (s.chans.length+1) cc')):=by
 have hA:=k.below (ball ob');have hq':=hq.alloc ob';have h1:=k.rl;have h2:=k.sl;have h3:=k.ol;have hgs:=k.g.size;have hlow:Below W0.heap.size (W.alloc ob') W3:=(Below.refl _ _).grown hg (by simp;omega) (fun p hp=>(hq'.lt p hp).1);have hobj:∀ {p:Nat} {cs:Array Value} {T:TypeId},(W.alloc ob').heap[p]? =some (.cells cs T (0,0))→61≠T→W3.heap[p]? =some (.cells cs T (0,0)):=fun {p cs T} hp hT=>
  (hg.block p (lt_of_block hp) (fun e=>owns_neObj hq' hp hT e.symm)).trans hp
 have hs3:=hobj hA.s (by simp);have ho3:=hobj hA.o (by simp);have hx3:RX rb mb lb r W3:=by
  obtain ⟨a,b,c1,c2,c3⟩:=hA.x.blk;have:=hA.x.le;exact ⟨⟨a,b,(hlow.block _ h1).trans c1,c2.mono fun _ _ _ hgl=>intAt.below (hlow.mono (by omega)) hgl,c3⟩,hA.x.le⟩
 have hm3:RM rb mb lb h m W3:=⟨hobj hA.m.box (by simp),hA.m.md.below (hlow.mono (by have:=hA.m.le;omega)),hA.m.ne,hA.m.le⟩;have hgs3:W0.grownBy W3 (some rb):=⟨hlow.os.trans hA.g.os,hlow.tape.trans hA.g.tape,hlow.output.trans hA.g.output,Nat.le_trans hA.g.size hlow.size,fun p hp hne=>(hlow.block p hp).trans (hA.g.block p hp hne)⟩;have hgr3:=hA.gr.kept hg (owns_ne hA.gr hq' (by simp));have hpr3:=hA.pr.grow hq' hg (by simp) (by simp);have hcr3:CR W0.heap.size W3 co' cc' (s.chans ++ [x]):=CR.step hq' (fun i hi=>by
  obtain ⟨a1,a2,a3,a4,a5⟩:=hqm i hi;exact ⟨a1,a2,a3,a4,a5.below (ball ob')⟩) (hx.below (ball ob')) hg hr
 have hset:=gb_set W3 sb 1 (.slice co' (s.chans.length+1) cc');refine ⟨owns_set hgr3 _ _ (owns_neObj hgr3 hs3 (by simp)),hcr3.set hs3 _ _,hpr3.set hs3 _ _, ?_,gb_heap hset ho3 k.ne,hx3.other hset (by omega),hm3.other (by omega) k.mne (lt_of_block hs3) hset,gb_mono hgs3 hset k.sl,k.rl,k.sl,k.ol,k.ne⟩;refine (heap_setCell_same _ _ _ _ _ _ hs3).trans ?_;simp [sCells]
theorem SL.pstep {xs:List Value} {x:ProcessD} {fo:Option Addr} {fc:Nat} {po':Option Addr} {pc':Nat} (k:SL W0 rb mb lb sb ob h m s hs r W) (hq:W.ownsRow W0.heap.size 63 4 (.slice hs.po s.procs.length hs.pc) s.procs.length xs)
 (hqm:∀i (hi:i < s.procs.length),xs[i*4]? =some (.int .i64 s.procs[i].type)∧xs[i*4+1]? =some (.int .i64 s.procs[i].loc)∧xs[i*4+2]? =some (.int .i64 s.procs[i].prio)∧
   ∃fo fc,xs[i*4+3]? =some (.slice fo s.procs[i].frame.length fc)∧W.ownsRow W0.heap.size 2 1 (.slice fo s.procs[i].frame.length fc) s.procs[i].frame.length (intsV s.procs[i].frame))
 (hx:W.ownsRow W0.heap.size 2 1 (.slice fo x.frame.length fc) x.frame.length (intsV x.frame))
 (hg: (W.alloc ob').grownBy W3 (Value.slice hs.po s.procs.length hs.pc).ownBlock) (hr:W3.ownsRow W0.heap.size 63 4 (.slice po' (s.procs.length+1) pc') (s.procs.length+1) (xs ++ [.int .i64 x.type,.int .i64 x.loc,.int .i64 x.prio,.slice fo x.frame.length fc])):
 SL W0 rb mb lb sb ob h m ⟨s.globals,s.chans,s.procs ++ [x],s.last,s.alone,s.claim⟩ ⟨hs.go,hs.gc,hs.co,hs.cc,po',pc'⟩ r (W3.setCell ⟨sb,2,none⟩ (.slice po' (s.procs.length+1) pc')):=by
 have hA:=k.below (ball ob');have hq':=hq.alloc ob';have h1:=k.rl;have h2:=k.sl;have h3:=k.ol;have hgs:=k.g.size;have hlow:Below W0.heap.size (W.alloc ob') W3:=(Below.refl _ _).grown hg (by simp;omega) (fun p hp=>(hq'.lt p hp).1);have hobj:∀ {p:Nat} {cs:Array Value} {T:TypeId},(W.alloc ob').heap[p]? =some (.cells cs T (0,0))→63≠T→W3.heap[p]? =some (.cells cs T (0,0)):=fun {p cs T} hp hT=>
  (hg.block p (lt_of_block hp) (fun e=>owns_neObj hq' hp hT e.symm)).trans hp
 have hs3:=hobj hA.s (by simp);have ho3:=hobj hA.o (by simp);have hx3:RX rb mb lb r W3:=by
  obtain ⟨a,b,c1,c2,c3⟩:=hA.x.blk;have:=hA.x.le;exact ⟨⟨a,b,(hlow.block _ h1).trans c1,c2.mono fun _ _ _ hgl=>intAt.below (hlow.mono (by omega)) hgl,c3⟩,hA.x.le⟩
 have hm3:RM rb mb lb h m W3:=⟨hobj hA.m.box (by simp),hA.m.md.below (hlow.mono (by have:=hA.m.le;omega)),hA.m.ne,hA.m.le⟩;have hgs3:W0.grownBy W3 (some rb):=⟨hlow.os.trans hA.g.os,hlow.tape.trans hA.g.tape,hlow.output.trans hA.g.output,Nat.le_trans hA.g.size hlow.size,fun p hp hne=>(hlow.block p hp).trans (hA.g.block p hp hne)⟩;have hgr3:=hA.gr.kept hg (owns_ne hA.gr hq' (by simp));have hcr3:=hA.cr.grow hq' hg (by simp) (by simp) (by simp);have hpr3:PRr W0.heap.size W3 po' pc' (s.procs ++ [x]):=PRr.step hq' (fun i hi=>by
  obtain ⟨a1,a2,a3,a4,a5,a6,a7⟩:=hqm i hi;exact ⟨a1,a2,a3,a4,a5,a6,a7.alloc ob'⟩) (hx.alloc ob') hg hr
 have hset:=gb_set W3 sb 2 (.slice po' (s.procs.length+1) pc');refine ⟨owns_set hgr3 _ _ (owns_neObj hgr3 hs3 (by simp)),hcr3.set hs3 _ _,hpr3.set hs3 _ _, ?_,gb_heap hset ho3 k.ne,hx3.other hset (by omega),hm3.other (by omega) k.mne (lt_of_block hs3) hset,gb_mono hgs3 hset k.sl,k.rl,k.sl,k.ol,k.ne⟩;refine (heap_setCell_same _ _ _ _ _ _ hs3).trans ?_;simp [sCells]
end
end Go.Proofs.YtnoibjahliafpaaDoor
