/- A law of the walk, over any program: a scope out of which the run jumps to labels of the same scope, at most n times. -/
import Derived.Scope
import Derived.WalkMore
import Derived.Test.YtnoibjahliafpaaDoorRows
import Derived.Test.YtnoibjahliafpaaDoorM23
import Derived.WalkKit
import Derived.ProofKit
import Derived.OpenShut
import Derived.Outline
import Derived.Below
import Derived.Lib.Hide
import Derived.Test.YtnoibjahliafpaaDoorM21
import Derived.Test.YtnoibjahliafpaaDoorM02
set_option linter.unusedVariables false
set_option linter.unusedSimpArgs false
namespace Go.Proofs.YtnoibjahliafpaaDoor.val
open Go
def Goes (P:Program) (c:Code) (Q:Exit→Act→World→Prop):Nat→Exit→Act→World→Prop
 | 0,e,a,w=>Exit.noGoto Q e a w
 | n+1,.goto l,a,w=>∃rest,findLabel c l=some rest∧rest.wp P (Goes P c Q n) a w
 | _+1,e,a,w=>Q e a w
section
variable {P:Program} {a:Act} {w:World} {Q:Exit→Act→World→Prop}
theorem goes_goto {c rest:Code} {n l:Nat} (hf:findLabel c l=some rest) (h:rest.wp P (Goes P c Q n) a w):Goes P c Q (n+1) (.goto l) a w:=⟨rest,hf,h⟩
theorem goes_ret {c:Code} {n:Nat} (h:Q .ret a w):Goes P c Q n .ret a w:=by cases n <;> exact h
theorem goes_normal {c:Code} {n:Nat} (h:Q .normal a w):Goes P c Q n .normal a w:=by cases n <;> exact h
theorem goes_exit {c:Code} {n i:Nat} (h:Q (.exit i) a w):Goes P c Q n (.exit i) a w:=by cases n <;> exact h
theorem scope_core {c:Code}:∀ (n:Nat) (d:Code) (a:Act) (w:World),d.wp P (Goes P c Q n) a w→∀ (b:Frame) (k:List Item) (cs:List Frame),
 ∃e a' w',Q e a' w'∧Arrives P (lone (b.at a (.code d :: .inScope c :: k)) cs w) b k cs e a' w':=by
 intro n
 induction n with
 | zero=>
   intro d a w h b k cs;obtain ⟨e,a₁,w₁,hq,harr⟩:=h b (.inScope c :: k) cs;cases e with
   | normal=>exact ⟨.normal,a₁,w₁,hq,Steps.trans harr (.one step_inScope)⟩
   | exit id=>exact ⟨.exit id,a₁,w₁,hq,fun k' hk=>harr k' (by simp [exitTo,hk])⟩
   | goto l=>exact hq.elim
   | ret=>exact ⟨_,a₁,w₁,hq,harr⟩
   | panic ch=>exact ⟨_,a₁,w₁,hq,harr⟩
   | outgrown=>exact ⟨_,a₁,w₁,hq,harr⟩
 | succ n ih=>
   intro d a w h b k cs;obtain ⟨e,a₁,w₁,hq,harr⟩:=h b (.inScope c :: k) cs;cases e with
   | normal=>exact ⟨.normal,a₁,w₁,hq,Steps.trans harr (.one step_inScope)⟩
   | exit id=>exact ⟨.exit id,a₁,w₁,hq,fun k' hk=>harr k' (by simp [exitTo,hk])⟩
   | goto l=>
     obtain ⟨rest,hf,hr⟩:=hq;obtain ⟨e₂,a₂,w₂,hq₂,harr₂⟩:=ih rest a₁ w₁ hr b k cs;have hg:gotoIn l (.inScope c :: k)=some (.code rest :: .inScope c :: k):=by simp [gotoIn,hf]
     exact ⟨e₂,a₂,w₂,hq₂,.of_steps (harr _ hg) harr₂⟩
   | ret=>exact ⟨_,a₁,w₁,hq,harr⟩
   | panic ch=>exact ⟨_,a₁,w₁,hq,harr⟩
   | outgrown=>exact ⟨_,a₁,w₁,hq,harr⟩
theorem wp_scope_goes (n:Nat) {c:Code} (h:c.wp P (Goes P c Q n) a w): (Code.scope c).wp P Q a w:=by
 intro b k cs;obtain ⟨e,a₁,w₁,hq,harr⟩:=scope_core n c a w h b k cs;cases e with
 | normal=>exact ⟨.normal,a₁,w₁,hq,.head step_scope harr⟩
 | exit id=>exact ⟨.exit id,a₁,w₁,hq,fun k' hk=> .head step_scope (harr k' hk)⟩
 | goto l=>exact ⟨.goto l,a₁,w₁,hq,fun k' hk=> .head step_scope (harr k' hk)⟩
 | ret=>exact ⟨_,a₁,w₁,hq,.of_steps (.one step_scope) harr⟩
 | panic ch=>exact ⟨_,a₁,w₁,hq,.of_steps (.one step_scope) harr⟩
 | outgrown=>exact ⟨_,a₁,w₁,hq,.of_steps (.one step_scope) harr⟩
end
end Go.Proofs.YtnoibjahliafpaaDoor.val
namespace Go.Proofs.YtnoibjahliafpaaDoor.val
open Go.ChangeShapes Go.WideShapes Go.ChangeAt Go.RowKit
theorem ret_int {k:IntKind} {a b:Int} (h:a=b):Ending.returned (.int k a)= .returned (.int k b):=by rw [h]
theorem w64 (n:Int) (h: -9223372036854775808≤n∧n≤9223372036854775807):wrap64 n=n:=by unfold wrap64;omega
set_option maxHeartbeats 400000 in
theorem fit_x (b v:Int) (s:Bool) (w:World):
 Calls Tryd.prog 42 #[.agg #[.int .i64 b,.bool s],.int .i64 v] w fun e w'=>e= .returned (.int .i64 (fitI b s v))∧w'=w.alloc (.cells #[.int .i64 b,.bool s] 70):=by
 by_cases h:b < 1∨32 < b
 · have hf:fitI b s v=0:=by unfold fitI;rw [if_pos h]
   have HF:=Lib.hid hf;clear hf;rcases h with h | h
   · go_enter Tryd.func42,Tryd.ntmps42;go_wp2;go_ret;exact ⟨ret_int HF.out.symm,rfl⟩
   · have h':¬b < 1:=by omega
     go_enter Tryd.func42,Tryd.ntmps42;go_wp2;go_ret;exact ⟨ret_int HF.out.symm,rfl⟩
 · have h1:1≤b:=by omega
   have h2:b≤32:=by omega
   obtain ⟨H,p1,p2,p3,p4⟩:=pows b h1 h2;have hf:fitI b s v=if s=true∧H≤v % (2*H) then v % (2*H) - 2*H else v % (2*H):=by unfold fitI;rw [if_neg h,p1,p2]
   have hl:bits .and .i64 v (2*H - 1)=v % (2*H):=by rw [←p2];exact bits_low b.toNat (by omega) v
   have q1:=Int.emod_nonneg v (show (2*H:Int)≠0 by omega);have q2:=Int.emod_lt_of_pos v (show (0:Int) < 2*H by omega);generalize v % (2*H)=L at*;have hm:wrap64 (2 ^ b.toNat)=2*H:=by rw [p2];exact w64 _ (by omega)
   have HF:=Lib.hid hf;clear hf p2 h;cases s
   · go_enter Tryd.func42,Tryd.ntmps42;go_wp2;go_ret;exact ⟨ret_int (by rw [HF.out];simp),rfl⟩
   · by_cases hh:H≤L
     · have hq: (L / H != 0)=true:=by
        rw [bne_iff_ne];have :1≤L / H:=(Int.le_ediv_iff_mul_le (by omega)).2 (by omega);omega
       go_enter Tryd.func42,Tryd.ntmps42;go_wp2;go_ret;exact ⟨ret_int (by rw [HF.out];simp [hh]),rfl⟩
     · have hq: (L / H != 0)=false:=by
        have :L / H=0:=Int.ediv_eq_zero_of_lt (by omega) (by omega);simp [this]
       go_enter Tryd.func42,Tryd.ntmps42;go_wp2;go_ret;exact ⟨ret_int (by rw [HF.out];rw [if_neg (by omega)]),rfl⟩
theorem fit_any (b v:Int) (s:Bool) (w:World):
 Calls Tryd.prog 42 #[.agg #[.int .i64 b,.bool s],.int .i64 v] w fun e w'=>e= .returned (.int .i64 (fitI b s v))∧Below w.heap.size w w':=
 (fit_x b v s w).mono fun _ _ ⟨he,hw⟩=>⟨he,by rw [hw];exact (Below.refl _ _).alloc (Nat.le_refl _) _⟩
end Go.Proofs.YtnoibjahliafpaaDoor.val
namespace Go.Proofs.YtnoibjahliafpaaDoor
open Go.ChangeShapes Go.WideShapes Go.ChangeAt Go.RowKit
theorem at_new {W:World} {o:Obj} {q:Nat} (h:W.heap.size=q): (W.alloc o).heap[q]? =some o:=by
 subst h;exact heap_alloc_new W o
theorem ints_put (l:List Int) (i:Nat) (v:Int):intsV (l.set i v)= (intsV l).set i (.int .i64 v):=by
 unfold intsV;rw [List.map_set]
def frameK (f:List (Int × Bool)) (init args:List Int) (k:Nat):List Int:=
 init.mapIdx fun i v=>if i < k then val.fitI (f.getD i (0,false)).1 (f.getD i (0,false)).2 (args.getD i 0) else v
theorem frameK_len (f:List (Int × Bool)) (init args:List Int) (k:Nat): (frameK f init args k).length=init.length:=by
 unfold frameK;simp
theorem frameK_zero (f:List (Int × Bool)) (init args:List Int):frameK f init args 0=init:=by
 unfold frameK;apply List.ext_getElem?;intro i;simp
theorem frameK_get (f:List (Int × Bool)) (init args:List Int) (k i:Nat): (frameK f init args k)[i]? =init[i]?.map fun v=>if i < k then val.fitI (f.getD i (0,false)).1 (f.getD i (0,false)).2 (args.getD i 0) else v:=by
 unfold frameK;rw [List.getElem?_mapIdx]
theorem frameK_step (f:List (Int × Bool)) (init args:List Int) {k:Nat} (h:k < init.length):
 (frameK f init args k).set k (val.fitI (f.getD k (0,false)).1 (f.getD k (0,false)).2 (args.getD k 0))=frameK f init args (k+1):=by
 apply List.ext_getElem?;intro i;rw [List.getElem?_set,frameK_get,frameK_get,frameK_len];by_cases e:k=i
 · subst e;rw [if_pos rfl,if_pos h,List.getElem?_eq_getElem h,Option.map_some,if_pos (Nat.lt_succ_self k)]
 · rw [if_neg e];by_cases h3:i < k
   · simp only [if_pos h3,if_pos (Nat.lt_succ_of_lt h3)]
   · have h4:¬i < k+1:=by omega
     simp only [if_neg h3,if_neg h4]
def beginD (t:Int) (p:ProcD) (args:List Int):ProcessD:=⟨t,p.start,p.prio,frameK p.frame p.init args args.length⟩
def startsOf (t:Nat) (p:ProcD):List ProcessD:=List.replicate p.active.toNat (beginD t p (List.replicate p.params.toNat 0))
def startsL:Nat→List ProcD→List ProcessD
 | _,[]=>[]
 | t,p :: r=>startsOf t p ++ startsL (t+1) r
def firstD (m:ModelD):StateD:=⟨m.init,m.chans.map fun s=>⟨s,[]⟩,startsL 0 m.procs,0,-1,if m.claim < 0 then -1 else ((m.procs[m.claim.toNat]?).map (·.start)).getD 0⟩
def beginE (m:ModelD) (t:Int) (args:List Int):Int:=
 if goodB m=true then (if 0≤t∧t < m.procs.length∧t≠m.claim∧ (((m.procs[t.toNat]?).map (·.params)).getD 0)=args.length then 0 else 42) else 40
structure GP (m:ModelD) (p:ProcD):Prop where
 init:p.init.length=p.frame.length
 most:p.frame.length≤128
 par:0≤p.params∧p.params≤p.frame.length
 act:0≤p.active∧p.active≤16
theorem good_gp {m:ModelD} (h:goodB m=true) {t:Nat} {p:ProcD} (hp:m.procs[t]? =some p):GP m p:=by
 have h1:=(good_gf h).procs (p,t) (by
  rw [List.mem_iff_getElem?];exact ⟨t,by rw [List.getElem?_zipIdx,hp];simp⟩)
 unfold procB frameB frameHeadB frameTailB at h1;simp only [Bool.and_eq_true,Bool.not_eq_true',decide_eq_false_iff_not,decide_eq_true_eq] at h1;obtain ⟨⟨⟨⟨h2,-⟩,h3⟩,-⟩,-⟩:=h1;exact ⟨by omega,by omega,by omega,by omega⟩
end Go.Proofs.YtnoibjahliafpaaDoor
namespace Go.Proofs.YtnoibjahliafpaaDoor
open Go.ChangeShapes Go.WideShapes Go.ChangeAt Go.RowKit
def BegP (w:World) (t:Int) (p:ProcD) (args:List Int) (e:Ending) (w':World):Prop:=
 ∃fo fc,e= .returned (.agg #[.int .i64 t,.int .i64 p.start,.int .i64 p.prio,.slice fo p.init.length fc])∧w'.ownsRow w.heap.size 2 1 (.slice fo p.init.length fc) p.init.length (intsV (frameK p.frame p.init args args.length))∧Below w.heap.size w w'
structure BX (w0:World) (PC:Array Value) (p:ProcD) (args:List Int) (fo:Option Addr) (fc k:Nat) (W:World):Prop where
 own:W.ownsRow (w0.heap.size+3) 2 1 (.slice fo p.init.length fc) p.init.length (intsV (frameK p.frame p.init args k))
 bel:Below w0.heap.size w0 W
 res:W.heap[w0.heap.size+1]? =some (.cells #[.int .i64 0,.int .i64 0,.int .i64 0,.slice none 0 0] 63 (0,0))
 pb:W.heap[w0.heap.size+2]? =some (.cells PC 67 (0,0))
theorem BX.below {w0 W W':World} {PC:Array Value} {p:ProcD} {args:List Int} {fo:Option Addr} {fc k:Nat} (h:BX w0 PC p args fo fc k W) (hb:Below W.heap.size W W'):BX w0 PC p args fo fc k W':=
 ⟨owns_below h.own hb,h.bel.trans (hb.mono h.bel.size),(hb.block _ (lt_of_block h.res)).trans h.res,(hb.block _ (lt_of_block h.pb)).trans h.pb⟩
theorem BX.step {w0 W:World} {PC:Array Value} {p:ProcD} {args:List Int} {g fc k:Nat} (h:BX w0 PC p args (some ⟨g,0,none⟩) fc k W) (hk:k < p.init.length) (z:Int) (hz:val.fitI (p.frame.getD k (0,false)).1 (p.frame.getD k (0,false)).2 (args.getD k 0)=z):
 BX w0 PC p args (some ⟨g,0,none⟩) fc (k+1) (W.setCell ⟨g,k,none⟩ (.int .i64 z)):=by
 have hg:=h.own.lt g rfl;refine ⟨?_,h.bel.setCell (by show _≤g;omega) _, ?_, ?_⟩
 · have h1:=(h.own.stored k (.int .i64 z)).1;rw [←ints_put,←hz,frameK_step _ _ _ hk,hz] at h1;exact h1
 · rw [heap_setCell_other _ _ _ _ (by show _≠g;omega)];exact h.res
 · rw [heap_setCell_other _ _ _ _ (by show _≠g;omega)];exact h.pb
theorem BX.done {w0 W:World} {PC:Array Value} {p:ProcD} {args:List Int} {fo:Option Addr} {fc k:Nat} (h:BX w0 PC p args fo fc k W) (v0 v1 v2 v3:Value):
 ((((W.setCell ⟨w0.heap.size+1,0,none⟩ v0).setCell ⟨w0.heap.size+1,1,none⟩ v1).setCell ⟨w0.heap.size+1,2,none⟩ v2).setCell ⟨w0.heap.size+1,3,none⟩ v3).ownsRow w0.heap.size 2 1 (.slice fo p.init.length fc) p.init.length (intsV (frameK p.frame p.init args k))∧
 Below w0.heap.size w0 ((((W.setCell ⟨w0.heap.size+1,0,none⟩ v0).setCell ⟨w0.heap.size+1,1,none⟩ v1).setCell ⟨w0.heap.size+1,2,none⟩ v2).setCell ⟨w0.heap.size+1,3,none⟩ v3):=by
 have hne: (Value.slice fo p.init.length fc).ownBlock≠some (w0.heap.size+1):=fun e=>by have:=(h.own.lt _ e).1;omega
 exact ⟨Joins.ownsRow_le (owns_set (owns_set (owns_set (owns_set h.own _ _ hne) _ _ hne) _ _ hne) _ _ hne) (by omega),(((h.bel.setCell (by simp) _).setCell (by simp) _).setCell (by simp) _).setCell (by simp) _⟩
set_option maxHeartbeats 4000000 in
set_option maxRecDepth 100000 in
theorem begunC {B:Nat} {h:MH} {m:ModelD} {t:Nat} {p:ProcD} {args:List Int} {ao:Option Addr} {ac:Nat} (w:World) (hB:B≤w.heap.size) (hm:MD B w h m) (hp:m.procs[t]? =some p) (hpi:p.init.length=p.frame.length) (hil:p.init.length*8≤140737488355328)
 (ha:Row B ao 1 (intAt w) args) (hal:args.length≤p.frame.length):
 Calls Tryd.prog 20 #[mV h m,.int .i64 t,.slice ao args.length ac] w (BegP w t p args):=by
 have hpl:=hm.procs.1;have htl:t < m.procs.length:=(List.getElem?_eq_some_iff.1 hp).1;have hti: (t:Int) < m.procs.length:=by omega
 have ht0: (0:Int)≤t:=by omega
 obtain ⟨gm,om,hom,hgm,hpa⟩:=hm.procs.get hp;obtain ⟨fto,ftc,c2,hft⟩:=hpa.frame;obtain ⟨io,ic,c3,hin⟩:=hpa.init;obtain ⟨lo,lc,c4,-⟩:=hpa.locs;have c0:=hpa.c0;have c1:=hpa.c1;have c5:=hpa.c5;have c6:=hpa.c6;have c7:=hpa.c7;have c8:=hpa.c8;have c9:=hpa.c9;have hargl:=ha.1;have hfl:=hft.1;obtain ⟨W1,hW1⟩:∃W1,W1= (w.alloc (.cells (mCells h m) 29)).alloc (.cells #[.int .i64 0,.int .i64 0,.int .i64 0,.slice none 0 0] 63):=⟨_,rfl⟩;have HB1:Hid (Below w.heap.size w W1):=Lib.hid (by rw [hW1];exact ((Below.refl _ _).alloc (Nat.le_refl _) _).alloc (by simp) _);have hs1:W1.heap.size=w.heap.size+2:=by rw [hW1];simp
 have HK1:Hid (W1.heap[w.heap.size+1]? =some (.cells #[.int .i64 0,.int .i64 0,.int .i64 0,.slice none 0 0] 63 (0,0))):=Lib.hid (by rw [hW1];exact at_new (by simp));have m4:W1.cell? ⟨w.heap.size,4,none⟩=some (.slice h.po m.procs.length h.pc):=by
  rw [hW1];exact (cell_of_row _ _ 4 _ _ _ ((Below.heap_alloc _ _ _ (by simp)).trans (heap_alloc_new _ _))).trans rfl
 rw [hom] at m4;have HG:Hid (gm < B∧B≤w.heap.size):=Lib.hid ⟨hgm,hB⟩;have HPI:=Lib.hid hpi;have HIL:=Lib.hid hil;have HAL:=Lib.hid hal;have HFT:=Lib.hid hft;have HIN:=Lib.hid hin;have HAR:=Lib.hid ha;have cc:∀i v,w.cell? ⟨gm,om+t*10+i,none⟩=some v→W1.cell? ⟨gm,om+t*10+i,none⟩=some v:=fun i v hc=>(HB1.out.cell (p:=⟨gm,om+t*10+i,none⟩) (Nat.lt_of_lt_of_le hgm hB)).trans hc
 replace c0:W1.cell? ⟨gm,om+t*10,none⟩=some (.string p.name):=cc 0 _ c0
 replace c1:=cc 1 _ c1
 replace c2:=cc 2 _ c2
 replace c3:=cc 3 _ c3
 replace c4:=cc 4 _ c4
 replace c5:=cc 5 _ c5
 replace c6:=cc 6 _ c6
 replace c7:=cc 7 _ c7
 replace c8:=cc 8 _ c8
 replace c9:=cc 9 _ c9
 clear hm hp hpa hft hin ha hom hgm hB hpi hil hal cc;unfold mV;go_enter Tryd.func20,Tryd.ntmps20;go_upto_region 1 with fail
 rw [←hW1,show w.heap.size+1=w.heap.size+1 from rfl];clear hW1;go_upto_region 2 with fail
 obtain ⟨PC,hPC⟩:∃c:Array Value,c= #[.string p.name,.int .i64 p.params,.slice fto p.frame.length ftc,.slice io p.init.length ic,.slice lo p.locs.length lc,.int .i64 p.start,.int .i64 p.final,.int .i64 p.active,.int .i64 p.prio,.int .i64 p.provided]:=⟨_,rfl⟩;have HPC:=Lib.hid hPC;rw [←hPC];clear hPC c0 c1 c2 c3 c4 c5 c6 c7 c8 c9 m4;have HB2:Hid (Below W1.heap.size W1 (W1.alloc (.cells PC 67))):=Lib.hid (ball _);have HK2:Hid ((W1.alloc (.cells PC 67)).heap[w.heap.size+2]? =some (.cells PC 67 (0,0))):=Lib.hid (by rw [←hs1];exact heap_alloc_new W1 _);clear hs1;generalize W1.alloc (.cells PC 67)=W2 at HB2 HK2 ⊢;have p3:W2.cell? ⟨w.heap.size+2,3,none⟩=some (.slice io p.init.length ic):=(cell_of_row _ _ 3 _ _ _ HK2.out).trans (by rw [HPC.out];rfl);have HBW2:Hid (Below w.heap.size w W2):=Lib.hid (HB1.out.trans (HB2.out.mono HB1.out.size));have HK12:Hid (W2.heap[w.heap.size+1]? =some (.cells #[.int .i64 0,.int .i64 0,.int .i64 0,.slice none 0 0] 63 (0,0))):=Lib.hid ((HB2.out.block _ (lt_of_block HK1.out)).trans HK1.out);clear HB1 HB2 HK1;go_wp2_with fail;refine (clone_ints io p.init.length ic (intsV p.init) W2 (ints_len _) (ints_one _) (src_ints (HIN.out.mono fun _ _ _ hg=>intAt.below (HBW2.out.mono HG.out.2) hg) (Nat.le_trans HG.out.2 HBW2.out.size)) HIL.out).mono ?_;rintro e W3 ⟨fo,fc,rfl,hown,hb3⟩;have HX:Hid (BX w PC p args fo fc 0 W3):=Lib.hid ⟨Joins.ownsRow_le (by rw [frameK_zero];exact hown) (lt_of_block HK2.out),HBW2.out.trans (hb3.mono HBW2.out.size),(hb3.block _ (lt_of_block HK12.out)).trans HK12.out,(hb3.block _ (lt_of_block HK2.out)).trans HK2.out⟩;clear hown hb3 p3 HK2 HK12 HBW2;go_wp2_with fail
 go_loopw [21] (fun iv W=>∃k:Nat,iv= .int .i64 k∧k≤args.length∧Hid (BX w PC p args fo fc k W)) (fun iv _=>args.length - (intOf iv).toNat)
 case atStart=>exact ⟨0,rfl,by omega,HX⟩
 case round=>
  clear HX;obtain ⟨k,rfl,hk,HX⟩:=hrel;have hk0: (0:Int)≤k:=by omega
  by_cases hlt:k < args.length
  · have hlti: (k:Int) < args.length:=by omega
    have hkf:k < p.frame.length:=by have:=HAL.out;omega
    have hkn:k < p.init.length:=by have:=HPI.out;omega
    have hkfi: (k:Int) < p.frame.length:=by omega
    have hkni: (k:Int) < p.init.length:=by omega
    obtain ⟨ga,oa,hoa,hga,ea⟩:=HAR.out.cell hlt;rw [Nat.mul_one] at ea;obtain ⟨v,hv⟩:∃v,args[k]=v:=⟨_,rfl⟩;rw [hv] at ea;subst hoa;obtain ⟨gt,ot,hot,hgt,et⟩:=HFT.out.cell hkf;obtain ⟨⟨tb,ts⟩,hty⟩:∃t,p.frame[k]=t:=⟨_,rfl⟩;rw [hty] at et;have HZ:Hid (val.fitI (p.frame.getD k (0,false)).1 (p.frame.getD k (0,false)).2 (args.getD k 0)=val.fitI tb ts v):=Lib.hid (by
     rw [List.getD_eq_getElem?_getD,List.getElem?_eq_getElem hkf,hty,List.getD_eq_getElem?_getD,List.getElem?_eq_getElem hlt,hv];rfl)
    have p2:wr.cell? ⟨w.heap.size+2,2,none⟩=some (.slice fto p.frame.length ftc):=(cell_of_row _ _ 2 _ _ _ HX.out.pb).trans (by rw [HPC.out];rfl);rw [hot] at p2;have ea':wr.cell? ⟨ga,oa+k,none⟩=some (.int .i64 v):=(HX.out.bel.cell (p:=⟨ga,oa+k,none⟩) (Nat.lt_of_lt_of_le hga HG.out.2)).trans ea;have t0:wr.cell? ⟨gt,ot+k*2,none⟩=some (.int .i64 tb):=(HX.out.bel.cell (p:=⟨gt,ot+k*2,none⟩) (Nat.lt_of_lt_of_le hgt HG.out.2)).trans et.1;have t1:wr.cell? ⟨gt,ot+k*2+1,none⟩=some (.bool ts):=(HX.out.bel.cell (p:=⟨gt,ot+k*2+1,none⟩) (Nat.lt_of_lt_of_le hgt HG.out.2)).trans et.2;obtain ⟨gb,cap,e⟩:=Joins.ownsRow_form HX.out.own (by omega);injection e with e1 e2 e3
    subst e1;clear ea et hga hgt hty hv hot e2 e3;go_wp2_with fail;refine (val.fit_any _ _ _ _).mono ?_;rintro e W4 ⟨rfl,hb4⟩;have HX4:=Lib.hid (HX.out.below hb4);have m1:=HX4.out.own.cellAt k (by omega);have m2:=HX4.out.own.frozenAt k;have hvk: (intsV (frameK p.frame p.init args k))[k]? =some (.int .i64 ((frameK p.frame p.init args k)[k]'(by rw [frameK_len];omega))):=by simp [intsV,frameK_len,hkn]
    rw [hvk] at m1;have HS:=Lib.hid (HX4.out.step hkn _ HZ.out);clear ea' t0 t1 p2 hvk hb4 HX HX4 HZ;go_wp2_with fail;go_roundw;case rel=>exact ⟨k+1,by go_num,by omega,HS⟩
    case measure=>simp [intOf];omega
  · have hlti:¬ (k:Int) < args.length:=by omega
    have hke:k=args.length:=by omega
    have HE:Hid (BX w PC p args fo fc args.length wr):=Lib.hid (hke ▸ HX.out);have p5:wr.cell? ⟨w.heap.size+2,5,none⟩=some (.int .i64 p.start):=(cell_of_row _ _ 5 _ _ _ HX.out.pb).trans (by rw [HPC.out];rfl);have p8:wr.cell? ⟨w.heap.size+2,8,none⟩=some (.int .i64 p.prio):=(cell_of_row _ _ 8 _ _ _ HX.out.pb).trans (by rw [HPC.out];rfl);have q0:wr.cell? ⟨w.heap.size+1,0,none⟩=some (.int .i64 0):=(cell_of_row _ _ 0 _ _ _ HX.out.res).trans rfl;have q1:wr.cell? ⟨w.heap.size+1,1,none⟩=some (.int .i64 0):=(cell_of_row _ _ 1 _ _ _ HX.out.res).trans rfl;have q2:wr.cell? ⟨w.heap.size+1,2,none⟩=some (.int .i64 0):=(cell_of_row _ _ 2 _ _ _ HX.out.res).trans rfl;have q3:wr.cell? ⟨w.heap.size+1,3,none⟩=some (.slice none 0 0):=(cell_of_row _ _ 3 _ _ _ HX.out.res).trans rfl;have f0:wr.frozen? ⟨w.heap.size+1,0,none⟩=false:=frozen_of_row _ _ _ _ _ HX.out.res;have f1:wr.frozen? ⟨w.heap.size+1,1,none⟩=false:=frozen_of_row _ _ _ _ _ HX.out.res;have f2:wr.frozen? ⟨w.heap.size+1,2,none⟩=false:=frozen_of_row _ _ _ _ _ HX.out.res;have f3:wr.frozen? ⟨w.heap.size+1,3,none⟩=false:=frozen_of_row _ _ _ _ _ HX.out.res;have HEN:=Lib.hid (HE.out.done (.int .i64 t) (.int .i64 p.start) (.int .i64 p.prio) (.slice fo p.init.length fc));clear hke HX HE;go_wp2_with fail;refine bodyPost_ret (v:= .agg #[.int .i64 t,.int .i64 p.start,.int .i64 p.prio,.slice fo p.init.length fc]) (by simp [results,Tryd.results20,go_sem,q0,q1,q2,q3,f0,f1,f2,f3]) rfl ?_;exact ⟨fo,fc,rfl,HEN.out.1,HEN.out.2⟩
end Go.Proofs.YtnoibjahliafpaaDoor
