/- A process at its place, as data: which ways it can go, as the program reckons them. -/
import Derived.Test.YthfldokfnjpkmaaGreatDoorM19
import Derived.Test.YthfldokfnjpkmaaGreatDoorM20
import Derived.Test.YthfldokfnjpkmaaGreatDoorM13
import Derived.WalkKit
import Derived.ProofKit
import Derived.Below
import Derived.Outline
import Derived.BigQuiet
import Derived.Deep.QuietTactic
import Derived.Test.YthfldokfnjpkmaaGreatDoorM15
import Derived.Test.YthfldokfnjpkmaaGreatDoorM16
set_option linter.unusedVariables false
set_option linter.unusedSimpArgs false
namespace Go.Proofs.YthfldokfnjpkmaaGreatDoor
structure WayD where
 esc:Int
 way:Int
 who:Int
 wesc:Int
 wway:Int
 err:Int
def aloneW (esc way err:Int):WayD:=⟨esc,way,-1,-1,-1,err⟩
def noneW:WayD:=⟨-1,-1,-1,-1,-1,0⟩
def procE (E:EnvD):ProcessD:=E.s.procs[E.pid.toNat]?.getD ⟨0,0,0,[]⟩
def typE (E:EnvD):ProcD:=E.m.procs[(procE E).type.toNat]?.getD ⟨ByteArray.empty,0,[],[],[],0,0,0,0,-1⟩
def placeE (E:EnvD):LocD:=(typE E).locs[(procE E).loc.toNat]?.getD ⟨[],[],false,false,false,false,false⟩
def opE (E:EnvD) (x:Int):Int:=(exprNo E x).op
def chnF (E:EnvD) (s:StmtD):Int × Int:=
 if (rchanB E (evE E) s.a).2=0∧ (shapeNo E (chanNo E (rchanB E (evE E) s.a).1)).fields.length≠s.args.length then (0,49) else rchanB E (evE E) s.a
def sndF (E:EnvD) (s:StmtD):Bool × Int × Int:=
 if (chnF E s).2≠0 then (true,0,(chnF E s).2)
 else (decide (((chanNo E (chnF E s).1).queue.length:Int) < (shapeNo E (chanNo E (chnF E s).1)).room),(chnF E s).1,0)
def wantE (E:EnvD) (s:StmtD):List Int × Int:=wantedF (evE E) (s.args.zip s.mat)
def anyN (s:StmtD):Bool:=decide (s.n=1) || decide (s.n=3)
def rcvF (E:EnvD) (s:StmtD):Int × Int × Int:=
 if (chnF E s).2≠0 then (0,0,(chnF E s).2)
 else if (wantE E s).2≠0 then (0,0,(wantE E s).2)
 else ((chnF E s).1,findF (wantE E s).1 s.mat (anyN s) (chanNo E (chnF E s).1).queue 0,0)
def canF (E:EnvD) (s:StmtD):Bool × Int:=
 if s.kind=2∧opE E s.b≠39 then (true,0)
 else if s.kind=3∨s.kind=4∨s.kind=8 then (true,0)
 else if s.kind=9 then (decide ((E.s.chans.length:Int) < 32),0)
 else if s.kind=5 then ((sndF E s).1,(sndF E s).2.2)
 else if s.kind=6 then (decide ((rcvF E s).2.2≠0) || decide (0≤ (rcvF E s).2.1),(rcvF E s).2.2)
 else if opE E (if s.kind=2 then s.b else s.a)=39 then (decide ((E.s.procs.length:Int) < 16),0)
 else (decide ((evE E (if s.kind=2 then s.b else s.a)).2≠0) || decide ((evE E (if s.kind=2 then s.b else s.a)).1≠0),(evE E (if s.kind=2 then s.b else s.a)).2)
def ones1 (l:List Int):List (Int × Int):=l.map fun x=>(x,1)
def allF (ev:Int→Int × Int) (l:List Int):List Int × Int:=wantedF ev (ones1 l)
def fitL:List (Int × Bool)→List Int→List Int
 | t :: r,v :: q=>val.fitI t.1 t.2 v :: fitL r q
 | _,q=>q
def msgF (E:EnvD) (s:StmtD) (n:Int):List Int × Int:=
 if (allF (evE E) s.args).2≠0 then ([],(allF (evE E) s.args).2) else (fitL (shapeNo E (chanNo E n)).fields (allF (evE E) s.args).1,0)
def xTakesB (E:EnvD) (s:StmtD) (n:Int) (msg:List Int):Bool:=
 decide (s.kind=6∧s.n≤1∧s.args.length=msg.length) && decide ((evE E s.a).2=0∧ (evE E s.a).1=n) && decide ((wantE E s).2=0) &&
  (List.range s.mat.length).all (fun i=> !(decide (s.mat.getD i 0=1) && decide ((wantE E s).1.getD i 0≠msg.getD i 0)))
def takeL (E:EnvD) (n:Int) (msg:List Int) (esc:Int):Nat→List TransD→List WayD × Bool
 | _,[]=>([],false)
 | i,t :: r=>
   if t.s.kind=7 then ((takeL E n msg esc (i+1) r).1,true)
   else if xTakesB E t.s n msg=true then (⟨0,0,E.pid,esc,i,0⟩ :: (takeL E n msg esc (i+1) r).1,(takeL E n msg esc (i+1) r).2)
   else ((takeL E n msg esc (i+1) r).1,(canF E t.s).1 || (takeL E n msg esc (i+1) r).2)
def listsF {α:Type} (one:Int→List TransD→List α × Bool):Int→List (List TransD)→List TransD→List α
 | _,[],l=>(one (-1) l).1
 | i,e :: r,l=>if (one i e).2=true then (one i e).1 else (one i e).1 ++ listsF one (i+1) r l
def provE (E:EnvD):Bool × Int:=if 0≤ (typE E).provided then (if (evE E (typE E).provided).2≠0 then (true,(evE E (typE E).provided).2) else (decide ((evE E (typE E).provided).1≠0),0)) else (true,0)
def takersF (E:EnvD) (pid n:Int) (msg:List Int):List WayD:=
 let F:EnvD:={ E with pid:=pid }
 if (procE F).loc= (typE F).final∨ (provE F).1=false∨ (provE F).2≠0 then []
 else listsF (fun esc l=>((takeL F n msg esc 0 l).1,(takeL F n msg esc 0 l).2 || decide (0 < (takeL F n msg esc 0 l).1.length))) 0 (placeE F).esc (placeE F).out
def meetF (E:EnvD) (esc way n:Int) (msg:List Int):Nat→List WayD
 | 0=>[]
 | q+1=>meetF E esc way n msg q ++ (if (q:Int)=E.pid then [] else (takersF E q n msg).map fun w=>{ w with esc:=esc,way:=way })
def sendsF (E:EnvD) (esc way:Int) (s:StmtD):List WayD:=
 if (sndF E s).1=true then [aloneW esc way (sndF E s).2.2]
 else if 0 < (shapeNo E (chanNo E (sndF E s).2.1)).room then []
 else if (msgF E s (sndF E s).2.1).2≠0 then [aloneW esc way (msgF E s (sndF E s).2.1).2]
 else meetF E esc way (sndF E s).2.1 (msgF E s (sndF E s).2.1).1 E.s.procs.length
def oneF (E:EnvD) (esc:Int) (i:Nat) (t:TransD):List WayD:=
 if t.s.kind=7 then [] else if t.s.kind=5 then sendsF E esc i t.s else if (canF E t.s).1=true then [aloneW esc i (canF E t.s).2] else []
def outF (E:EnvD) (esc:Int):Nat→List TransD→List WayD
 | _,[]=>[]
 | i,t :: r=>oneF E esc i t ++ outF E esc (i+1) r
def elseF (esc:Int):Nat→List TransD→List WayD
 | _,[]=>[]
 | i,t :: r=>(if t.s.kind=7 then [aloneW esc i 0] else []) ++ elseF esc (i+1) r
def listedF (E:EnvD) (esc:Int) (l:List TransD):List WayD:=if (outF E esc 0 l).length=0 then elseF esc 0 l else outF E esc 0 l
def xWaysL (E:EnvD):Int→List (List TransD)→List TransD→List WayD
 | _,[],l=>listedF E (-1) l
 | i,e :: r,l=>if 0 < (listedF E i e).length then listedF E i e else xWaysL E (i+1) r l
def waysF (E:EnvD):List WayD:=
 if (procE E).loc= (typE E).final then (if E.pid= (E.s.procs.length:Int) - 1 then [noneW] else [])
 else if (provE E).2≠0 then [aloneW (-1) (-1) (provE E).2]
 else if (provE E).1=false then []
 else xWaysL E 0 (placeE E).esc (placeE E).out
def execE (E:EnvD):Int:=if stateE E.m E.s≠0 then stateE E.m E.s else if E.pid < 0∨ (E.s.procs.length:Int)≤E.pid then 42 else 0
structure StF (m:ModelD) (s:StmtD):Prop where
 kind:1≤s.kind∧s.kind≤9
 a:s.kind=1∨s.kind=2∨s.kind=3∨s.kind=5∨s.kind=6∨s.kind=9→0≤s.a∧s.a < m.exprs.length
 b:s.kind=2→0≤s.b∧s.b < m.exprs.length
 args:∀q ∈ s.args,0≤q∧q < m.exprs.length
 most:s.kind=5∨s.kind=6→1≤s.args.length∧s.args.length≤8
 mat:s.kind=6→s.mat.length=s.args.length
theorem st_facts {m:ModelD} {s:StmtD} (h:stmtB m s=true):StF m s:=by
 have hargs:∀q ∈ s.args,0≤q∧q < m.exprs.length:=by
  intro q hq;have h3:=(stmt_ab h).2.2;exact isExpr_le (List.all_eq_true.1 h3 q hq)
 have h0:=h;unfold stmtB at h;split at h
 · cases h
 · rename_i q hq
   simp only [Bool.and_eq_true] at h;obtain ⟨⟨⟨⟨h1,h2⟩,_⟩,_⟩,h5⟩:=h;unfold askAB at h1;unfold askN at h2;simp only [Bool.not_eq_true',Bool.or_eq_false_iff,decide_eq_false_iff_not,Bool.and_eq_false_iff,Bool.not_eq_false',Decidable.not_not] at h1 h2;unfold askOf at hq;have hk:s.kind=1∨s.kind=2∨s.kind=3∨s.kind=4∨s.kind=5∨s.kind=6∨s.kind=7∨s.kind=8∨s.kind=9:=by
    by_cases k1:s.kind=1∨s.kind=3
    · omega
    rw [if_neg k1] at hq;by_cases k2:s.kind=2
    · omega
    rw [if_neg k2] at hq;by_cases k4:s.kind=4
    · omega
    rw [if_neg k4] at hq;by_cases k5:s.kind=5
    · omega
    rw [if_neg k5] at hq;by_cases k6:s.kind=6
    · omega
    rw [if_neg k6] at hq;by_cases k7:s.kind=7∨s.kind=8
    · omega
    rw [if_neg k7] at hq;by_cases k9:s.kind=9
    · omega
    rw [if_neg k9] at hq;cases hq
   have hA:q.hasA=true→0≤s.a∧s.a < m.exprs.length:=fun hq1=>isExpr_le (by
    rcases h1.1.1.2 with h | h
    · rw [hq1] at h;cases h
    · exact h)
   have hB:q.hasB=true→0≤s.b∧s.b < m.exprs.length:=fun hq1=>isExpr_le (by
    rcases h1.2 with h | h
    · rw [hq1] at h;cases h
    · exact h)
   refine ⟨by omega,fun hk2=>hA ?_,fun hk2=>hB ?_,hargs,fun hk2=> ?_,fun hk2=> ?_⟩
   · rcases hk2 with k | k | k | k | k | k <;> (simp [k] at hq;subst hq;rfl)
   · simp [hk2] at hq;subst hq;rfl
   · rcases hk2 with k | k <;> (simp [k] at hq;subst hq;simp only at h2;omega)
   · simp [hk2] at hq;subst hq;simp only [Bool.not_true,Bool.false_or] at h5;unfold receivesB fieldsB at h5;simp only [Bool.and_eq_true,Bool.not_eq_true',decide_eq_false_iff_not] at h5;omega
end Go.Proofs.YthfldokfnjpkmaaGreatDoor
namespace Go.Proofs.YthfldokfnjpkmaaGreatDoor
open Go.ChangeShapes Go.WideShapes Go.ChangeAt Go.RowKit
theorem wp_region_kept {P:Program} {id:Nat} {Q:Exit→Act→World→Prop} {a:Act} {w:World} {l:List Oper} (hm:P.follows .mixedOrders=true) (hB:Region.lexB .any l.toArray=true)
 (h:∀ (ι:Type) (_:Nonempty ι) (f:ι→World),(∀n,Below w.heap.size w (f n))→ (∀n w',Below (f n).heap.size (f n) w'→∃m,w'=f m)→
   wpQuiet P l.toArray (fun w'=>∃n,w'=f n) (fun a'=>∀w',Below w.heap.size w w'→Q .normal a' w') l a): (Code.region id l.toArray true).wp P Q a w:=by
 refine wp_region_quiet (C:=fun w'=>∃n: { x // Below w.heap.size w x },w'=n.1) hm hB ⟨⟨_,(Below.refl _ _).drew⟩,rfl⟩ ?_;have h1:=h { x // Below w.heap.size w x } ⟨⟨w,Below.refl _ _⟩⟩ (fun n=>n.1) (fun n=>n.2) (fun n w' hw=>⟨⟨w',n.2.trans (hw.mono n.2.size)⟩,rfl⟩);have e: (fun a'=>∀w',Below w.heap.size w w'→Q .normal a' w')= (fun a'=>∀w',(∃n: { x // Below w.heap.size w x },w'=n.1)→Q .normal a' w'):=by
  funext a'
  apply propext;constructor
  · rintro g w' ⟨n,rfl⟩;exact g _ n.2
  · intro g w' hw;exact g w' ⟨⟨w',hw⟩,rfl⟩
 rw [e] at h1;simpa using h1
theorem kept_of {P:Program} {F:FuncId} {args:Array Value} {v:Value} {ι:Type} {f:ι→World} (hcl:∀n w',Below (f n).heap.size (f n) w'→∃m,w'=f m) (n:ι)
 (h:Calls P F args (f n) fun e w'=>e= .returned v∧Below (f n).heap.size (f n) w'):Calls P F args (f n) fun e w'=>e= .returned v∧∃m,w'=f m:=
 h.mono fun _ _ ⟨he,hb⟩=>⟨he,hcl n _ hb⟩
end Go.Proofs.YthfldokfnjpkmaaGreatDoor
namespace Go.Proofs.YthfldokfnjpkmaaGreatDoor
open Go.ChangeShapes Go.WideShapes Go.ChangeAt Go.RowKit
set_option maxRecDepth 100000 in
set_option maxHeartbeats 2000000 in
theorem processC {B pe:Nat} {h:MH} {hs:SH} {ao:Option Addr} {ac:Nat} {E:EnvD} {k tk g off g2 off2:Nat} {p:ProcessD} {t:ProcD} (w:World) (hk:Ek B w pe h hs ao ac E) (hpid:E.pid=k) (hp:E.s.procs[k]? =some p) (htk:p.type=tk) (ht:E.m.procs[tk]? =some t) (ho:hs.po=some ⟨g,off,none⟩) (ho2:h.po=some ⟨g2,off2,none⟩):
 Calls Tryz.prog 38 #[.pointer (some ⟨pe,0,none⟩)] w fun e w'=>e= .returned (.tuple #[.pointer (some ⟨g,off+k*4,none⟩),.pointer (some ⟨g2,off2+tk*10,none⟩)])∧Below w.heap.size w w':=by
 have HK:=Lib.hid hk;obtain ⟨g',off',e1,hg1,hpa⟩:=hk.sk.sd.procs.get hp;rw [ho] at e1;injection e1 with e1
 injection e1 with e1 e2
 subst e1 e2;have hkl:=(List.getElem?_eq_some_iff.1 hp).1;have htl:=(List.getElem?_eq_some_iff.1 ht).1;have hki: (k:Int) < E.s.procs.length:=by omega
 have hti: (tk:Int) < E.m.procs.length:=by omega
 have hk0: (0:Int)≤k:=by omega
 have ht0: (0:Int)≤tk:=by omega
 have hpl:=hk.sk.sd.procs.1;have hml:=hk.ck.md.procs.1;have HQ:Hid (∀W,Below w.heap.size w W→W.cell? ⟨pe,9,none⟩=some (.slice (some ⟨g,off,none⟩) E.s.procs.length hs.pc)∧W.cell? ⟨pe,13,none⟩=some (.int .i64 k)∧W.cell? ⟨pe,4,none⟩=some (.slice (some ⟨g2,off2,none⟩) E.m.procs.length h.pc)∧W.cell? ⟨g,off+k*4,none⟩=some (.int .i64 tk)):=Lib.hid fun W hb=>by
  have hk2:=HK.out.below hb;have hgw:g < w.heap.size:=by have:=HK.out.leW;omega
  exact ⟨by rw [←ho];exact hk2.sk.c2,by rw [←hpid];exact hk2.c13,by rw [←ho2];exact hk2.ck.c4,(hb.cell (p:=⟨g,off+k*4,none⟩) hgw).trans (by rw [←htk];exact hpa.c0)⟩
 obtain ⟨x9,x13,x4,y0⟩:=HQ.out w (Below.refl _ _);clear hk hpa hg1 hpid hp htk ht ho ho2;go_enter Tryz.func38,Tryz.ntmps38;go_upto_region 1 with fail
 go_quiet (fail);have HB1:Hid (Below w.heap.size w (w.drewN nq)):=Lib.hid (bdrew (Below.refl _ _) nq);generalize w.drewN nq=W1 at HB1 ⊢;clear x9 x13 x4 y0;obtain ⟨x9,x13,x4,y0⟩:=HQ.out W1 HB1.out;go_upto_region 2 with fail
 go_quiet (fail);have HB2:Hid (Below w.heap.size w (W1.drewN nq)):=Lib.hid (bdrew HB1.out nq);generalize W1.drewN nq=W2 at HB2 ⊢;go_wp2_with fail;go_ret2;exact ⟨rfl,HB2.out⟩
set_option maxRecDepth 100000 in
set_option maxHeartbeats 2000000 in
theorem shapeC {B pe:Nat} {h:MH} {hs:SH} {ao:Option Addr} {ac:Nat} {E:EnvD} {k ks g2 off2:Nat} {c:ChanD} {sh:ShapeD} (w:World) (hk:Ek B w pe h hs ao ac E) (hc:E.s.chans[k]? =some c) (hks:c.shape=ks) (hsh:E.m.shapes[ks]? =some sh) (ho2:h.so=some ⟨g2,off2,none⟩):
 Calls Tryz.prog 121 #[.pointer (some ⟨pe,0,none⟩),.int .i64 ((k:Int)+1)] w fun e w'=>e= .returned (.pointer (some ⟨g2,off2+ks*2,none⟩))∧Below w.heap.size w w':=by
 have HK:=Lib.hid hk;have hkl:=(List.getElem?_eq_some_iff.1 hc).1;have hsl:=(List.getElem?_eq_some_iff.1 hsh).1;have hksl: (ks:Int) < E.m.shapes.length:=by omega
 have hks0: (0:Int)≤ks:=by omega
 have hkz: (0:Int)≤ (k:Int)+1 - 1:=by omega
 have hki: (k:Int)+1 - 1 < E.s.chans.length:=by omega
 have hke: (k:Int)+1 - 1=k:=by omega
 obtain ⟨g1,off1,ho1,hg1,hca⟩:=hk.sk.sd.chans.get hc;have hcl:=hk.sk.sd.chans.1;have hml:=hk.ck.md.shapes.1;have c8:=hk.sk.c1;have c2:=hk.ck.c2;rw [ho1] at c8;rw [ho2] at c2;have q0:=hca.c0;rw [hks] at q0;clear hk hca ho1 ho2 hsh hks hc hg1;go_enter Tryz.func121,Tryz.ntmps121;go_wp2_with fail;go_quiet (fail);have HB2:Hid (Below w.heap.size w (w.drewN nq)):=Lib.hid (bdrew (Below.refl _ _) nq);generalize w.drewN nq=W2 at HB2 ⊢;go_wp2_with fail;go_ret;exact ⟨rfl,HB2.out⟩
set_option maxRecDepth 100000 in
set_option maxHeartbeats 2000000 in
theorem channelC {B pe g a:Nat} {h:MH} {hs:SH} {ao:Option Addr} {ac:Nat} {E:EnvD} {s:StmtD} (w:World) (hk:Ek B w pe h hs ao ac E) (hok:Ok E) (hs1:stmtAt B w g a s) (hg:g < B) (ha:0≤s.a∧s.a < E.m.exprs.length):
 Calls Tryz.prog 129 #[.pointer (some ⟨pe,0,none⟩),.pointer (some ⟨g,a,none⟩)] w fun e w'=>e= .returned (.tuple #[.int .i64 (chnF E s).1,.int .i64 (chnF E s).2])∧Below w.heap.size w w':=by
 have HK:=Lib.hid hk;have HO:=Lib.hid hok;have hgw:g < w.heap.size:=by have:=hk.leW;omega
 have HS:=Lib.hid hs1;have HC:=Lib.hid (chanC s.a w hk (evalC hok) ha.1 ha.2);have x1:=hs1.c1;obtain ⟨⟨v,er⟩,hev⟩:∃q,rchanB E (evE E) s.a=q:=⟨_,rfl⟩;rw [show rchanB E (evalF E E.m.exprs.length) s.a= (v,er) from hev] at HC;simp only at HC;have HEV:=Lib.hid hev;clear hk hok hs1 hev;go_enter Tryz.func129,Tryz.ntmps129;go_wp2_with fail;refine HC.out.mono ?_;rintro e W1 ⟨rfl,hb1⟩;have HB1:=Lib.hid hb1;have HK1:=Lib.hid (HK.out.below hb1);clear hb1 x1 HC;go_upto_region 2 with fail
 by_cases h0:er=0;rotate_left
 · have hd0: (er == 0)=false:=by simpa using h0
   have HV:Hid (chnF E s= (v,er)):=Lib.hid (by
    unfold chnF;rw [HEV.out,if_neg (fun h=>h0 h.1)])
   clear h0;refine wp_region_kept (by kernel_rfl) (by kernel_rfl) (fun ι hne f hf hcl=> ?_);clear hf hcl
   repeat (go_big_quiet_step (fail))
   refine wpQuiet_nil ?_;intro W2 hb2;have HB2:=Lib.hid (HB1.out.trans (hb2.mono HB1.out.size));clear hb2;go_wp2_with fail;go_ret2;exact ⟨ret2 (by rw [HV.out]) (by rw [HV.out]),HB2.out⟩
 subst h0;obtain ⟨k,hk1,hkl⟩:=rchan_ok (E:=E) (ev:=evE E) (a:=s.a) (by rw [HEV.out]);rw [HEV.out] at hk1;have hk2:v= (k:Int)+1:=hk1;subst hk2;obtain ⟨c,hc⟩:∃s,E.s.chans[k]? =some s:=⟨_,List.getElem?_eq_getElem hkl⟩;obtain ⟨sh,hsh,hs0,hsl⟩:=may_chan HO.out hc;obtain ⟨ks,hks⟩:∃q:Nat,c.shape=q:=⟨c.shape.toNat,by omega⟩;have HV:Hid (chnF E s=if sh.fields.length≠s.args.length then (0,49) else ((k:Int)+1,0)):=Lib.hid (by
  unfold chnF;rw [HEV.out];simp only;rw [chanNo_get hc,shapeNo_get hsh];by_cases h:sh.fields.length=s.args.length <;> simp [h])
 rw [hks,Int.toNat_natCast] at hsh;obtain ⟨g2,off2,ho2,hg2,hsa⟩:=HK1.out.ck.md.shapes.get hsh;have HSH:=Lib.hid (fun (W:World) (hb:Below W1.heap.size W1 W)=>shapeC W (HK1.out.below hb) hc hks hsh ho2);obtain ⟨fo,fc,hf1,hf2⟩:=hsa.fields;obtain ⟨qo,qc,ha1,ha2⟩:=HS.out.args;have hfl:=hf2.1;have hal:=ha2.1;have HQ:Hid (∀W,Below W1.heap.size W1 W→W.cell? ⟨g2,off2+ks*2+1,none⟩=some (.slice fo sh.fields.length fc)∧W.cell? ⟨g,a+4,none⟩=some (.slice qo s.args.length qc)):=Lib.hid fun W hb=>by
  have hl:=HK1.out.leW;exact ⟨(hb.cell (p:=⟨g2,off2+ks*2+1,none⟩) (by show g2 < _;omega)).trans hf1,(hb.cell (p:=⟨g,a+4,none⟩) (by show g < _;omega)).trans ((HB1.out.cell (p:=⟨g,a+4,none⟩) hgw).trans ha1)⟩
 clear hsa hf1 hf2 ha1 ha2 hg2 ho2 hsh hks hs0 hsl hc hk1;refine wp_region_kept (by kernel_rfl) (by kernel_rfl) (fun ι hne f hf hcl=> ?_);have z1:∀n,(f n).cell? ⟨g2,off2+ks*2+1,none⟩=some (.slice fo sh.fields.length fc):=fun n=>(HQ.out _ (hf n)).1
 have z2:∀n,(f n).cell? ⟨g,a+4,none⟩=some (.slice qo s.args.length qc):=fun n=>(HQ.out _ (hf n)).2
 have HA:=Lib.hid (fun n=>HSH.out _ (hf n));have HFF:=Lib.hid hcl;clear hf hcl HSH
 repeat (go_big_quiet_step ((go_at_call 121;with_reducible exact kept_of HFF.out _ (HA.out _))))
 refine wpQuiet_nil ?_;intro W2 hb2;have HB2:=Lib.hid (HB1.out.trans (hb2.mono HB1.out.size));clear hb2 z1 z2 HA HFF;by_cases hn:sh.fields.length=s.args.length
 · have hd1: ((sh.fields.length:Int) != s.args.length)=false:=by rw [hn];simp
   have HW:Hid (chnF E s= ((k:Int)+1,0)):=Lib.hid (by rw [HV.out,if_neg (fun h=>h hn)]);clear hn;go_wp2_with fail;go_ret2;exact ⟨ret2 (by rw [HW.out]) (by rw [HW.out]),HB2.out⟩
 · have hd1: ((sh.fields.length:Int) != s.args.length)=true:=by rw [bne_iff_ne];omega
   have HW:Hid (chnF E s= (0,49)):=Lib.hid (by rw [HV.out,if_pos hn]);clear hn;go_wp2_with fail;go_ret2;exact ⟨ret2 (by rw [HW.out]) (by rw [HW.out]),HB2.out⟩
theorem keepS {W0 W W1:World} (h:Below W0.heap.size W0 W) (hb:Below W.heap.size W W1):Below W0.heap.size W0 W1:=h.trans (hb.mono h.size)
theorem chn_ok {E:EnvD} {s:StmtD} (h: (chnF E s).2=0):∃k:Nat,(chnF E s).1= (k:Int)+1∧k < E.s.chans.length:=by
 unfold chnF at h ⊢;split
 · rename_i hc
   rw [if_pos hc] at h;simp at h
 · rename_i hc
   rw [if_neg hc] at h;exact rchan_ok h
set_option maxRecDepth 100000 in
set_option maxHeartbeats 2000000 in
theorem sendableC {B pe g a:Nat} {h:MH} {hs:SH} {ao:Option Addr} {ac:Nat} {E:EnvD} {s:StmtD} (w:World) (hk:Ek B w pe h hs ao ac E) (hok:Ok E) (hs1:stmtAt B w g a s) (hg:g < B) (ha:0≤s.a∧s.a < E.m.exprs.length):
 Calls Tryz.prog 120 #[.pointer (some ⟨pe,0,none⟩),.pointer (some ⟨g,a,none⟩)] w fun e w'=>e= .returned (.tuple #[.bool (sndF E s).1,.int .i64 (sndF E s).2.1,.int .i64 (sndF E s).2.2])∧Below w.heap.size w w':=by
 have HK:=Lib.hid hk;have HO:=Lib.hid hok;have HC:=Lib.hid (channelC w hk hok hs1 hg ha);obtain ⟨⟨v,er⟩,hev⟩:∃q,chnF E s=q:=⟨_,rfl⟩;have HEV:=Lib.hid hev;rw [hev] at HC;simp only at HC;clear hk hok hs1 hev;go_enter Tryz.func120,Tryz.ntmps120;go_wp2_with fail;refine HC.out.mono ?_;rintro e W1 ⟨rfl,hb1⟩;have HB1:=Lib.hid hb1;have HK1:=Lib.hid (HK.out.below hb1);clear hb1 HC;by_cases h0:er=0;rotate_left
 · have hd0: (er != 0)=true:=by rw [bne_iff_ne];exact h0
   have HV:Hid (sndF E s= (true,0,er)):=Lib.hid (by
    unfold sndF;rw [HEV.out,if_pos h0])
   clear h0;go_wp2_with fail;rw [HV.out];refine bodyPost_ret (v:= .tuple #[.bool true,.int .i64 0,.int .i64 er]) (by simp [results,Tryz.results120,go_sem]) rfl ?_;exact ⟨rfl,HB1.out⟩
 subst h0;obtain ⟨k,hk1,hkl⟩:=chn_ok (E:=E) (s:=s) (by rw [HEV.out]);rw [HEV.out] at hk1;have hk2:v= (k:Int)+1:=hk1;subst hk2;obtain ⟨c,hc⟩:∃s,E.s.chans[k]? =some s:=⟨_,List.getElem?_eq_getElem hkl⟩;obtain ⟨sh,hsh,hs0,hsl⟩:=may_chan HO.out hc;obtain ⟨ks,hks⟩:∃q:Nat,c.shape=q:=⟨c.shape.toNat,by omega⟩;have HV:Hid (sndF E s= (decide ((c.queue.length:Int) < sh.room),(k:Int)+1,0)):=Lib.hid (by
  unfold sndF;rw [HEV.out];simp only;rw [chanNo_get hc,shapeNo_get hsh,if_neg (by simp)])
 rw [hks,Int.toNat_natCast] at hsh;obtain ⟨g2,off2,ho2,hg2,hsa⟩:=HK1.out.ck.md.shapes.get hsh;have HSH:=Lib.hid (fun (W:World) (hb:Below W1.heap.size W1 W)=>shapeC W (HK1.out.below hb) hc hks hsh ho2);obtain ⟨g1,off1,ho1,hg1,hca⟩:=HK1.out.sk.sd.chans.get hc;obtain ⟨qo,qc,hq1,hq2⟩:=hca.queue;have hql:=hq2.1;have hcl:=HK1.out.sk.sd.chans.1;have hkz: (0:Int)≤ (k:Int)+1 - 1:=by omega
 have hki: (k:Int)+1 - 1 < E.s.chans.length:=by omega
 have hke: (k:Int)+1 - 1=k:=by omega
 have HQ:Hid (∀W,Below W1.heap.size W1 W→W.cell? ⟨g2,off2+ks*2,none⟩=some (.int .i64 sh.room)∧W.cell? ⟨g1,off1+k*2+1,none⟩=some (.slice qo c.queue.length qc)∧W.cell? ⟨pe,8,none⟩=some (.slice (some ⟨g1,off1,none⟩) E.s.chans.length hs.cc)):=Lib.hid fun W hb=>by
  have hl:=HK1.out.leW;exact ⟨(hb.cell (p:=⟨g2,off2+ks*2,none⟩) (by show g2 < _;omega)).trans hsa.c0,(hb.cell (p:=⟨g1,off1+k*2+1,none⟩) (by show g1 < _;omega)).trans hq1,by rw [←ho1];exact (HK1.out.below hb).sk.c1⟩
 clear hsa hq1 hq2 hca hg1 ho1 hg2 ho2 hsh hks hs0 hsl hc hk1;go_upto_region 4 with fail
 refine wp_region_kept (by kernel_rfl) (by kernel_rfl) (fun ι hne f hf hcl=> ?_);have z1:∀n,(f n).cell? ⟨g2,off2+ks*2,none⟩=some (.int .i64 sh.room):=fun n=>(HQ.out _ (hf n)).1
 have z2:∀n,(f n).cell? ⟨g1,off1+k*2+1,none⟩=some (.slice qo c.queue.length qc):=fun n=>(HQ.out _ (hf n)).2.1
 have z3:∀n,(f n).cell? ⟨pe,8,none⟩=some (.slice (some ⟨g1,off1,none⟩) E.s.chans.length hs.cc):=fun n=>(HQ.out _ (hf n)).2.2
 have HA:=Lib.hid (fun n=>HSH.out _ (hf n));have HFF:=Lib.hid hcl;clear hf hcl HSH
 repeat (go_big_quiet_step ((go_at_call 121;with_reducible exact kept_of HFF.out _ (HA.out _))))
 refine wpQuiet_nil ?_;intro W2 hb2;have HB2:=Lib.hid (HB1.out.trans (hb2.mono HB1.out.size));clear hb2 z1 z2 z3 HA HFF;obtain ⟨x,hx⟩:∃x,decide ((c.queue.length:Int) < sh.room)=x:=⟨_,rfl⟩;rw [hx] at HV
 try rw [hx]
 go_wp2_with fail;rw [HV.out];refine bodyPost_ret (v:= .tuple #[.bool x,.int .i64 ((k:Int)+1),.int .i64 0]) (by simp [results,Tryz.results120,go_sem,hx]) rfl ?_;exact ⟨rfl,HB2.out⟩
end Go.Proofs.YthfldokfnjpkmaaGreatDoor
namespace Go.Proofs.YthfldokfnjpkmaaGreatDoor
open Go.ChangeShapes Go.WideShapes Go.ChangeAt Go.RowKit
theorem Ek.queueAt {B pe:Nat} {w W:World} {h:MH} {hs:SH} {ao:Option Addr} {ac:Nat} {E:EnvD} {k g1 off1 qc:Nat} {qo:Option Addr} {c:ChanD} (hk:Ek B w pe h hs ao ac E) (hb:Below w.heap.size w W) (hc:E.s.chans[k]? =some c) (ho1:hs.co=some ⟨g1,off1,none⟩) (hq:W.cell? ⟨g1,off1+k*2+1,none⟩=some (.slice qo c.queue.length qc)):Row W.heap.size qo 1 (msgAt W.heap.size W) c.queue:=by
 have hk2:=hk.below hb;have hsd:=hk2.sk.sd.lift hk2.leW;obtain ⟨g',off',e1,-,hca⟩:=hsd.chans.get hc;rw [ho1] at e1;injection e1 with e1
 injection e1 with e1 e2
 subst e1 e2;obtain ⟨qo',qc',h1,h2⟩:=hca.queue;rw [hq] at h1;injection h1 with h1
 injection h1 with h1 _ _
 rw [h1];exact h2
set_option maxRecDepth 100000 in
set_option maxHeartbeats 4000000 in
theorem receivedC {B pe g a:Nat} {h:MH} {hs:SH} {ao:Option Addr} {ac:Nat} {E:EnvD} {s:StmtD} (w:World) (hk:Ek B w pe h hs ao ac E) (hok:Ok E) (hs1:stmtAt B w g a s) (hg:g < B) (hf:StF E.m s) (h6:s.kind=6):
 Calls Tryz.prog 124 #[.pointer (some ⟨pe,0,none⟩),.pointer (some ⟨g,a,none⟩)] w fun e w'=>e= .returned (.tuple #[.int .i64 (rcvF E s).1,.int .i64 (rcvF E s).2.1,.int .i64 (rcvF E s).2.2])∧Below w.heap.size w w':=by
 have HK:=Lib.hid hk;have HO:=Lib.hid hok;have HS:=Lib.hid hs1;have HF:=Lib.hid hf;have HC:=Lib.hid (channelC w hk hok hs1 hg (hf.a (by omega)));obtain ⟨⟨v,er⟩,hev⟩:∃q,chnF E s=q:=⟨_,rfl⟩;have HEV:=Lib.hid hev;rw [hev] at HC;simp only at HC;have hgw:g < w.heap.size:=by have:=hk.leW;omega
 have hn8:=(hf.most (by omega)).2;have hmat:=hf.mat h6;clear hk hok hs1 hev hf;go_enter Tryz.func124,Tryz.ntmps124;go_wp2_with fail;refine HC.out.mono ?_;rintro e W1 ⟨rfl,hb1⟩;have HB1:=Lib.hid hb1;have HK1:=Lib.hid (HK.out.below hb1);clear hb1 HC;by_cases h0:er=0;rotate_left
 · have hd0: (er != 0)=true:=by rw [bne_iff_ne];exact h0
   have HV:Hid (rcvF E s= (0,0,er)):=Lib.hid (by
    unfold rcvF;rw [HEV.out,if_pos h0])
   clear h0;go_wp2_with fail;rw [HV.out];refine bodyPost_ret (v:= .tuple #[.int .i64 0,.int .i64 0,.int .i64 er]) (by simp [results,Tryz.results124,go_sem]) rfl ?_;exact ⟨rfl,HB1.out⟩
 subst h0;obtain ⟨k,hk1,hkl⟩:=chn_ok (E:=E) (s:=s) (by rw [HEV.out]);rw [HEV.out] at hk1;have hk2:v= (k:Int)+1:=hk1;subst hk2;obtain ⟨qo,qc,ha1,ha2⟩:=HS.out.args;obtain ⟨mo,mc,hm1,hm2⟩:=HS.out.mat;have HQ:Hid (∀W,Below W1.heap.size W1 W→Below W1.heap.size W1 W∧W.cell? ⟨g,a+4,none⟩=some (.slice qo s.args.length qc)∧W.cell? ⟨g,a+5,none⟩=some (.slice mo s.mat.length mc)):=Lib.hid fun W hb=>
  have hB:=HB1.out.trans (hb.mono HB1.out.size)
  ⟨hb,(hB.cell (p:=⟨g,a+4,none⟩) hgw).trans ha1,(hB.cell (p:=⟨g,a+5,none⟩) hgw).trans hm1⟩
 have HRA:=Lib.hid (fun (W:World) (hb:Below W1.heap.size W1 W)=>wantedC (ev:=evalF E E.m.exprs.length) s.args s.mat qo mo qc mc W (HK1.out.below hb) (evalC HO.out) (ha2.mono fun _ _ _ hgg=>intAt.below ((HB1.out.trans (hb.mono HB1.out.size)).mono HK.out.leW) hgg) (hm2.mono fun _ _ _ hgg=>intAt.below ((HB1.out.trans (hb.mono HB1.out.size)).mono HK.out.leW) hgg) hn8 hmat HF.out.args);have HRM:Hid (∀W,Below w.heap.size w W→Row W.heap.size mo 1 (intAt W) s.mat):=Lib.hid fun W hb=>(hm2.mono fun _ _ _ hgg=>intAt.below (hb.mono HK.out.leW) hgg).up (by have:=HK.out.leW;have:=hb.size;omega)
 have hml:=hm2.1;clear ha1 ha2 hm1 hm2 hk1 hmat;go_upto_region 4 with fail
 obtain ⟨⟨want,er⟩,hwe⟩:∃q,wantE E s=q:=⟨_,rfl⟩;have HWE:=Lib.hid hwe;have hwe2:wantedF (evalF E E.m.exprs.length) (s.args.zip s.mat)= (want,er):=hwe;rw [hwe2] at HRA;clear hwe hwe2;by_cases h0:er=0;rotate_left
 · have hd0: (er != 0)=true:=by rw [bne_iff_ne];exact h0
   have HV:Hid (rcvF E s= (0,0,er)):=Lib.hid (by
    unfold rcvF;rw [HEV.out,if_neg (by simp),HWE.out,if_pos h0])
   have HNE:=Lib.hid h0;clear h0
   go_region_held3 (fun W=>Below W1.heap.size W1 W∧W.cell? ⟨g,a+4,none⟩=some (.slice qo s.args.length qc)∧W.cell? ⟨g,a+5,none⟩=some (.slice mo s.mat.length mc))
    (first | assumption | with_reducible exact HQ.out _ (Below.refl _ _).drew | with_reducible exact HQ.out _ (by assumption))
    (first
      | (go_simp;go_at_call 116
         with_reducible refine (HRA.out _ (And.left (by assumption))).mono ?_
         rintro e W2 hwp;have hB2:Below W1.heap.size W1 W2:=keepS (And.left (by assumption)) hwp.bel;have hee:=hwp.no HNE.out;subst hee;clear hwp))
   all_goals (
    try simp only [Exit.inBlock,Exit.then]
    have HBZ:=Lib.hid (HB1.out.trans (hB2.mono HB1.out.size));go_wp2_with fail;rw [HV.out];refine bodyPost_ret (v:= .tuple #[.int .i64 0,.int .i64 0,.int .i64 er]) (by simp [results,Tryz.results124,go_sem]) rfl ?_;exact ⟨rfl,HBZ.out⟩)
 subst h0;obtain ⟨c,hc⟩:∃s,E.s.chans[k]? =some s:=⟨_,List.getElem?_eq_getElem hkl⟩;have HV:Hid (rcvF E s= ((k:Int)+1,findF want s.mat (anyN s) c.queue 0,0)):=Lib.hid (by
  unfold rcvF;rw [HEV.out,if_neg (by simp),HWE.out,if_neg (by simp)];simp only;rw [chanNo_get hc])
 obtain ⟨g1,off1,ho1,hg1,hca⟩:=HK1.out.sk.sd.chans.get hc;obtain ⟨uo,uc,hq1,-⟩:=hca.queue;have HFX:=Lib.hid (And.intro hc ho1);have hcl:=HK1.out.sk.sd.chans.1;have hkz: (0:Int)≤ (k:Int)+1 - 1:=by omega
 have hki: (k:Int)+1 - 1 < E.s.chans.length:=by omega
 have hke: (k:Int)+1 - 1=k:=by omega
 have HQ2:Hid (∀W,Below W1.heap.size W1 W→W.cell? ⟨g1,off1+k*2,none⟩=some (.int .i64 c.shape)∧W.cell? ⟨g1,off1+k*2+1,none⟩=some (.slice uo c.queue.length uc)∧W.cell? ⟨pe,8,none⟩=some (.slice (some ⟨g1,off1,none⟩) E.s.chans.length hs.cc)∧W.cell? ⟨g,a+3,none⟩=some (.int .i64 s.n)):=Lib.hid fun W hb=>by
  have hl:=HK1.out.leW;exact ⟨(hb.cell (p:=⟨g1,off1+k*2,none⟩) (by show g1 < _;omega)).trans hca.c0,(hb.cell (p:=⟨g1,off1+k*2+1,none⟩) (by show g1 < _;omega)).trans hq1,by rw [←ho1];exact (HK1.out.below hb).sk.c1,((HB1.out.trans (hb.mono HB1.out.size)).cell (p:=⟨g,a+3,none⟩) hgw).trans HS.out.c3⟩
 clear hca hq1 ho1 hg1 hc
 go_cut [8,9] from 19 to 31 (fun v8 v9 W'=>∃wb:Nat,v8= .int .i64 0∧v9= .slice (some ⟨wb,0,none⟩) want.length s.args.length∧Hid (Row W'.heap.size (some ⟨wb,0,none⟩) 1 (intAt W') want∧want.length=s.args.length)∧Hid (Below W1.heap.size W1 W'))
 case first=>
  go_region_held3 (fun W=>Below W1.heap.size W1 W∧W.cell? ⟨g,a+4,none⟩=some (.slice qo s.args.length qc)∧W.cell? ⟨g,a+5,none⟩=some (.slice mo s.mat.length mc))
   (first | assumption | with_reducible exact HQ.out _ (Below.refl _ _).drew | with_reducible exact HQ.out _ (by assumption))
   (first
     | (go_simp;go_at_call 116
        with_reducible refine (HRA.out _ (And.left (by assumption))).mono ?_
        rintro e W2 hwp;have hB2:Below W1.heap.size W1 W2:=keepS (And.left (by assumption)) hwp.bel;obtain ⟨hee,hwl,hwr,hws⟩:=hwp.yes rfl;subst hee;have HWL:=Lib.hid hwl;clear hwp hwl))
  all_goals (
   try simp only [Exit.inBlock,Exit.then]
   have HZ1:=Lib.hid (And.intro (hwr.up hws) HWL.out);have HZ2:=Lib.hid hB2;clear hwr hws hB2;go_wp2_with fail;go_meet;exact ⟨_,rfl,rfl,HZ1,HZ2⟩)
 case rest=>
 obtain ⟨wb,rfl,rfl,HWR,HB2⟩:=hcut;have HC1:=Lib.hid (HB1.out.trans (HB2.out.mono HB1.out.size));go_wp2_with fail;go_upto_region 7 with fail
 obtain ⟨g7,hg7⟩:∃x,anyN s=x:=⟨_,rfl⟩;have HFD:Hid (∀W,Below wc.heap.size wc W→Calls Tryz.prog 117 #[.agg #[.int .i64 c.shape,.slice uo c.queue.length uc],.slice (some ⟨wb,0,none⟩) want.length s.args.length,.slice mo s.mat.length mc,.bool g7] W fun e w'=>e= .returned (.int .i64 (findF want s.mat g7 c.queue 0))∧Below W.heap.size W w'):=Lib.hid fun W hb=>by
  have hb1:=HB2.out.trans (hb.mono HB2.out.size);have hq:=HK1.out.queueAt hb1 HFX.out.1 HFX.out.2 (HQ2.out W hb1).2.1;have hw:=(HWR.out.1.mono fun _ _ _ hgg=>intAt.below hb hgg).up hb.size;exact findC c.shape c.queue want s.mat g7 uo (some ⟨wb,0,none⟩) mo uc s.args.length mc W (Nat.le_refl _) hq hw (HRM.out W (HC1.out.trans (hb.mono HC1.out.size)))
 have HG7:=Lib.hid hg7;clear hg7;have HQ3:=Lib.hid (fun (W:World) (hb:Below wc.heap.size wc W)=>And.intro (HQ2.out W (HB2.out.trans (hb.mono HB2.out.size))) (HQ.out W (HB2.out.trans (hb.mono HB2.out.size))).2);by_cases h1:s.n=1
 · have hn1: (s.n == 1)=true:=by simpa using h1
   have hg7:g7=true:=by rw [←HG7.out];unfold anyN;rw [h1];rfl
   subst hg7;clear h1;refine wp_region_kept (by kernel_rfl) (by kernel_rfl) (fun ι hne f hf hcl=> ?_);have z1:∀n,(f n).cell? ⟨g1,off1+k*2,none⟩=some (.int .i64 c.shape):=fun n=>(HQ3.out _ (hf n)).1.1
   have z2:∀n,(f n).cell? ⟨g1,off1+k*2+1,none⟩=some (.slice uo c.queue.length uc):=fun n=>(HQ3.out _ (hf n)).1.2.1
   have z3:∀n,(f n).cell? ⟨pe,8,none⟩=some (.slice (some ⟨g1,off1,none⟩) E.s.chans.length hs.cc):=fun n=>(HQ3.out _ (hf n)).1.2.2.1
   have z4:∀n,(f n).cell? ⟨g,a+3,none⟩=some (.int .i64 s.n):=fun n=>(HQ3.out _ (hf n)).1.2.2.2
   have z5:∀n,(f n).cell? ⟨g,a+5,none⟩=some (.slice mo s.mat.length mc):=fun n=>(HQ3.out _ (hf n)).2.2
   have HA:=Lib.hid (fun n=>HFD.out _ (hf n));have HFF:=Lib.hid hcl;clear hf hcl HFD
   repeat (go_big_quiet_step ((go_at_call 117;with_reducible exact kept_of HFF.out _ (HA.out _))))
   refine wpQuiet_nil ?_;intro W2 hb2;have HB3:=Lib.hid (HC1.out.trans (hb2.mono HC1.out.size));clear hb2 z1 z2 z3 z4 z5 HA HFF;go_wp2_with fail;rw [HV.out,HG7.out];refine bodyPost_ret (v:= .tuple #[.int .i64 ((k:Int)+1),.int .i64 (findF want s.mat true c.queue 0),.int .i64 0]) (by simp [results,Tryz.results124,go_sem]) rfl ?_;exact ⟨rfl,HB3.out⟩
 have hn1: (s.n == 1)=false:=by simpa using h1
 have hg7: (s.n == 3)=g7:=by rw [←HG7.out];unfold anyN;rw [decide_eq_false h1,Bool.false_or];by_cases h3:s.n=3 <;> simp [h3]
 clear h1;refine wp_region_kept (by kernel_rfl) (by kernel_rfl) (fun ι hne f hf hcl=> ?_);have z1:∀n,(f n).cell? ⟨g1,off1+k*2,none⟩=some (.int .i64 c.shape):=fun n=>(HQ3.out _ (hf n)).1.1
 have z2:∀n,(f n).cell? ⟨g1,off1+k*2+1,none⟩=some (.slice uo c.queue.length uc):=fun n=>(HQ3.out _ (hf n)).1.2.1
 have z3:∀n,(f n).cell? ⟨pe,8,none⟩=some (.slice (some ⟨g1,off1,none⟩) E.s.chans.length hs.cc):=fun n=>(HQ3.out _ (hf n)).1.2.2.1
 have z4:∀n,(f n).cell? ⟨g,a+3,none⟩=some (.int .i64 s.n):=fun n=>(HQ3.out _ (hf n)).1.2.2.2
 have z5:∀n,(f n).cell? ⟨g,a+5,none⟩=some (.slice mo s.mat.length mc):=fun n=>(HQ3.out _ (hf n)).2.2
 have HA:=Lib.hid (fun n=>HFD.out _ (hf n));have HFF:=Lib.hid hcl;clear hf hcl HFD
 repeat (go_big_quiet_step ((go_at_call 117;with_reducible exact kept_of HFF.out _ (HA.out _))))
 refine wpQuiet_nil ?_;intro W2 hb2;have HB3:=Lib.hid (HC1.out.trans (hb2.mono HC1.out.size));clear hb2 z1 z2 z3 z4 z5 HA HFF;go_wp2_with fail;rw [HV.out,HG7.out];refine bodyPost_ret (v:= .tuple #[.int .i64 ((k:Int)+1),.int .i64 (findF want s.mat g7 c.queue 0),.int .i64 0]) (by simp [results,Tryz.results124,go_sem]) rfl ?_;exact ⟨rfl,HB3.out⟩
end Go.Proofs.YthfldokfnjpkmaaGreatDoor
