/- What the ways of a list do and use. -/
import Derived.Test.YtnoibjahliafpaaDoorM16
import Derived.Test.YtnoibjahliafpaaDoorM01
set_option linter.unusedVariables false
set_option linter.unusedSimpArgs false
namespace Go.Proofs.YtnoibjahliafpaaDoor
open Go.ChangeShapes Go.WideShapes Go.ChangeAt Go.RowKit
theorem isExprB_of {m:ModelD} {x:Int} (h:isExprB m x=true):0≤x∧x < m.exprs.length:=by unfold isExprB at h;simpa using h
theorem stmtB_ok {m:ModelD} {s:StmtD} (h:stmtB m s=true):s.a < m.exprs.length∧s.b < m.exprs.length∧∀q ∈ s.args,0≤q∧q < m.exprs.length:=by
 unfold stmtB at h;split at h
 · cases h
 · rename_i q hq
   simp only [Bool.and_eq_true] at h;obtain ⟨⟨⟨⟨h1,h2⟩,h3⟩,h4⟩,h5⟩:=h;unfold askAB at h1;simp only [Bool.not_eq_true',Bool.or_eq_false_iff,decide_eq_false_iff_not,Bool.and_eq_false_iff] at h1;obtain ⟨⟨⟨a1,a2⟩,b1⟩,b2⟩:=h1;have key:∀ (x:Int) (b:Bool),¬ (b≠decide (x≠ -1))→ (b=false∨ (!isExprB m x)=false)→x < m.exprs.length:=by
    intro x b e1 e2;rcases e2 with e2 | e2
    · subst e2;by_cases hx:x= -1
      · subst hx;omega
      · exact absurd (by rw [decide_eq_true hx];decide) e1
    · have :isExprB m x=true:=by simpa using e2
      exact (isExprB_of this).2
   refine ⟨key _ _ a1 a2,key _ _ b1 b2,fun q hq=>isExprB_of ?_⟩;rw [List.all_eq_true] at h3;exact h3 q hq
def FJ {α:Type} (f:List Int→α→Bool × List Int) (B p sb:Nat) (h:MH) (m:ModelD) (r:Bool × List Int) (w0:World) (R:List α) (W:World):Prop:=
 ∃seen left,stopF f R seen=r∧UJ B p sb h m seen left W∧Gn B w0 W
section
variable {α:Type} {f:List Int→α→Bool × List Int} {B p sb:Nat} {h:MH} {m:ModelD} {r:Bool × List Int} {w0 W:World}
theorem FJ.done (hv:FJ f B p sb h m r w0 [] W):UsesP B p sb h m r w0 (.returned (.bool true)) W:=by
 obtain ⟨seen,left,h1,h2,h3⟩:=hv;rw [←h1];exact ⟨rfl,⟨_,h2⟩,h3⟩
theorem FJ.ck {R:List α} (hv:FJ f B p sb h m r w0 R W):Ck B W p h m:=by
 obtain ⟨seen,left,h1,⟨lv,h2⟩,h3⟩:=hv;exact h2.ck
theorem FJ.gn {R:List α} (hv:FJ f B p sb h m r w0 R W):Gn B w0 W:=by
 obtain ⟨seen,left,h1,h2,h3⟩:=hv;exact h3
theorem FJ.below {R:List α} {W':World} (hv:FJ f B p sb h m r w0 R W) (hb:Below W.heap.size W W'):FJ f B p sb h m r w0 R W':=by
 obtain ⟨seen,left,h1,⟨lv,h2⟩,h3⟩:=hv;exact ⟨seen,left,h1,⟨lv,h2.below hb⟩,h3.trans (Gn.of hb h2.leW)⟩
def FStep {α:Type} (f:List Int→α→Bool × List Int) (B p sb:Nat) (h:MH) (m:ModelD) (r:Bool × List Int) (w0:World) (R:List α) (e:Ending) (W:World):Prop:=
 ∃u,e= .returned (.bool u)∧ (u=true→FJ f B p sb h m r w0 R W)∧ (u=false→UsesP B p sb h m r w0 (.returned (.bool false)) W)
theorem FJ.call {F:Nat} {args:Array Value} {x:α} {R:List α} (hv:FJ f B p sb h m r w0 (x :: R) W)
 (hc:∀seen left,UJ B p sb h m seen left W→Calls Tryd.prog F args W (UsesP B p sb h m (f seen x) W)):Calls Tryd.prog F args W (FStep f B p sb h m r w0 R):=by
 obtain ⟨seen,left,h1,h2,h3⟩:=hv;refine (hc seen left h2).mono ?_;rintro e W' ⟨rfl,⟨left',h4⟩,h5⟩;refine ⟨_,rfl,fun hu=>⟨_,_, ?_,h4,h3.trans h5⟩,fun hu=> ?_⟩
 · rw [←h1,stopF_yes hu]
 · rw [stopF_no hu] at h1;rw [←h1];exact ⟨rfl,⟨_,h4⟩,h3.trans h5⟩
theorem FJ.no {x:α} {R:List α} {W':World} (hv:FJ f B p sb h m r w0 (x :: R) W) (hx:∀seen,f seen x= (false,seen)) (hb:Below W.heap.size W W'):UsesP B p sb h m r w0 (.returned (.bool false)) W':=by
 obtain ⟨seen,left,h1,⟨lv,h2⟩,h3⟩:=hv;rw [stopF_no (by rw [hx]),hx] at h1;rw [←h1];exact ⟨rfl,⟨_,lv,h2.below hb⟩,h3.trans (Gn.of hb h2.leW)⟩
theorem FJ.call2 {F:Nat} {args:Array Value} {x:α} {R:List α} {g:List Int→Bool × List Int} (hv:FJ f B p sb h m r w0 (x :: R) W) (hx:∀seen,f seen x=g seen)
 (hc:∀seen left,UJ B p sb h m seen left W→Calls Tryd.prog F args W (UsesP B p sb h m (g seen) W)):Calls Tryd.prog F args W (FStep f B p sb h m r w0 R):=
 hv.call fun seen left hj=>by rw [hx];exact hc seen left hj
end
set_option maxHeartbeats 8000000 in
set_option maxRecDepth 100000 in
theorem waysC {B p sb:Nat} {h:MH} {m:ModelD} {seen left:List Int} (proc:Nat) (l:List TransD) (o:Option Addr) (cap:Nat) (w:World) (hj:UJ B p sb h m seen left w) (hx:EX m) (hproc:proc < m.procs.length) (hl:Row B o 9 (transAt B w) l):
 Calls Tryd.prog 61 #[.pointer (some ⟨p,0,none⟩),.int .i64 proc,.slice o l.length cap] w (UsesP B p sb h m (waysL m proc seen l) w):=by
 have HEX:=Lib.hid hx;have HL:=Lib.hid hl;obtain ⟨lv,k⟩:=hj;have hB:B≤w.heap.size:=k.leW;obtain ⟨r,hr⟩:∃r,waysL m proc seen l=r:=⟨_,rfl⟩;have HV0:Hid (FJ (wayL m proc) B p sb h m r w (l.drop 0) w):=Lib.hid ⟨seen,left,by rw [←hr];rfl,⟨lv,k⟩,Gn.refl _ _⟩;rw [hr];have hpl:m.procs.length≤140737488355328:=k.md.procs.1;have hll:=hl.1;clear hr k hx hl;go_enter Tryd.func61,Tryd.ntmps61;go_wp2_with fail
 go_loopw [11] (fun iv W=>∃j:Nat,iv= .int .i64 j∧j≤l.length∧Hid (FJ (wayL m proc) B p sb h m r w (l.drop j) W)) (fun iv _=>l.length - (intOf iv).toNat)
 case atStart=>exact ⟨0,rfl,by omega,HV0⟩
 case round=>
  clear HV0;obtain ⟨j,rfl,hj,HJ⟩:=hrel;have hj0: (0:Int)≤j:=by omega
  have hp0: (0:Int)≤proc:=by omega
  by_cases hlt:j < l.length
  · have hlti: (j:Int) < l.length:=by omega
    have HCK:=Lib.hid HJ.out.ck;have hrow:Row B o 9 (transAt B wr) l:=HL.out.mono fun _ _ _ hg=>transAt.below HJ.out.gn.bel hg
    obtain ⟨g,off,hog,hg,ht⟩:=hrow.cell hlt;obtain ⟨t,hte⟩:∃t,l[j]=t:=⟨_,rfl⟩;rw [hte] at ht;have HN1:Hid (FJ (wayL m proc) B p sb h m r w (t :: l.drop (j+1)) wr):=Lib.hid (by have:=HJ.out;rw [drop_cons hlt,hte] at this;exact this);obtain ⟨a,ha⟩:∃a,off+j*9=a:=⟨_,rfl⟩;have HA:=Lib.hid ha;rw [ha] at ht;have HT:=Lib.hid ht;subst hog;clear hrow ht hte ha HJ;go_wp2_with fail;rw [HA.out];refine (stmtC wr HCK.out HT.out.s hg).mono ?_;rintro e W2 ⟨rfl,hb2⟩;have HB2:=Lib.hid hb2;clear hb2;obtain ⟨u,hu⟩:∃u,stmtB m t.s=u:=⟨_,rfl⟩;rw [hu];have HU:=Lib.hid hu;clear hu;cases u
    · have HZ:=Lib.hid (HN1.out.no (fun seen=>by unfold wayL;rw [HU.out];rfl) HB2.out);go_wp2_with fail;go_ret;exact HZ.out
    · have HV2:=Lib.hid (HN1.out.below HB2.out);have HS2:Hid (stmtAt B W2 g a t.s):=Lib.hid (HT.out.s.below (HB2.out.mono (by have:=HCK.out.le;have:=HCK.out.lt;omega)) hg);have HOK:=Lib.hid (stmtB_ok HU.out);have d5:W2.cell? ⟨p,5,none⟩=some (.int .i64 m.claim):=HV2.out.ck.c5;by_cases hcl: (proc:Int)=m.claim
      · have hcb: ((proc:Int) == m.claim)=true:=by rw [beq_iff_eq];exact hcl
        have HCL:=Lib.hid hcl;have e0:=HS2.out.c0;clear hcl;go_wp2_with fail;clear d5 e0;refine (claimsC t.s.kind W2).mono ?_;rintro e W3 ⟨rfl,rfl⟩;obtain ⟨u,hu⟩:∃u,claimsB t.s.kind=u:=⟨_,rfl⟩;rw [hu];have HU2:=Lib.hid hu;clear hu;cases u
        · have HZ:=Lib.hid (HV2.out.no (fun seen=>by unfold wayL;rw [HU.out,HU2.out,decide_eq_true HCL.out];rfl) (Below.refl _ _));go_wp2_with fail;go_ret;exact HZ.out
        · have HC:=Lib.hid (HV2.out.call2 (F:=78) (args:=#[.pointer (some ⟨p,0,none⟩),.int .i64 proc,.pointer (some ⟨g,a,none⟩)]) (g:=fun seen=>usedByL m proc seen t.s) (fun seen=>by unfold wayL;rw [HU.out,HU2.out];simp) (fun seen left hj=>usedByC proc W2 hj HEX.out hproc HS2.out hg HOK.out.1 HOK.out.2.1 HOK.out.2.2));go_wp2_with fail;refine HC.out.mono ?_;rintro e W4 ⟨u,rfl,hy,hn⟩;have HY:=Lib.hid hy;have HN:=Lib.hid hn;clear hy hn;cases u
          · have HZ:=Lib.hid (HN.out rfl);go_wp2_with fail;go_ret;exact HZ.out
          · have HZ:=Lib.hid (HY.out rfl);go_wp2_with fail;go_roundw;case rel=>exact ⟨j+1,by go_num,by omega,HZ⟩
            case measure=>simp [intOf];omega
      · have hcb: ((proc:Int) == m.claim)=false:=by rw [beq_eq_false_iff_ne];exact hcl
        have HC:=Lib.hid (HV2.out.call2 (F:=78) (args:=#[.pointer (some ⟨p,0,none⟩),.int .i64 proc,.pointer (some ⟨g,a,none⟩)]) (g:=fun seen=>usedByL m proc seen t.s) (fun seen=>by unfold wayL;rw [HU.out,decide_eq_false hcl];simp) (fun seen left hj=>usedByC proc W2 hj HEX.out hproc HS2.out hg HOK.out.1 HOK.out.2.1 HOK.out.2.2));clear hcl;go_wp2_with fail;clear d5;refine HC.out.mono ?_;rintro e W4 ⟨u,rfl,hy,hn⟩;have HY:=Lib.hid hy;have HN:=Lib.hid hn;clear hy hn;cases u
        · have HZ:=Lib.hid (HN.out rfl);go_wp2_with fail;go_ret;exact HZ.out
        · have HZ:=Lib.hid (HY.out rfl);go_wp2_with fail;go_roundw;case rel=>exact ⟨j+1,by go_num,by omega,HZ⟩
          case measure=>simp [intOf];omega
  · have hlti:¬ (j:Int) < l.length:=by omega
    have HZ:Hid (FJ (wayL m proc) B p sb h m r w [] wr):=Lib.hid (by have:=HJ.out;rw [List.drop_of_length_le (by omega)] at this;exact this);have HZ2:=Lib.hid HZ.out.done;go_wp2_with fail;go_ret;exact HZ2.out
end Go.Proofs.YtnoibjahliafpaaDoor
namespace Go.Proofs.YtnoibjahliafpaaDoor
open Go.ChangeShapes Go.WideShapes Go.ChangeAt Go.RowKit
theorem UsesP.is {B p sb:Nat} {h:MH} {m:ModelD} {r:Bool × List Int} {w0 W:World} {b:Bool} (hv:UsesP B p sb h m r w0 (.returned (.bool b)) W):r.1=b:=by
 have:=hv.1;injection this with this
 injection this with this
 exact this.symm
def SJ (B p sb:Nat) (h:MH) (m:ModelD) (R:Int × Bool) (w0:World) (i:Nat) (W:World):Prop:=
 ∃seen left,statGo m (m.procs.zipIdx.drop i) seen=R∧UJ B p sb h m seen left W∧Gn B w0 W
theorem statGo_cons {m:ModelD} {x:ProcD × Nat} {r:List (ProcD × Nat)} {s:List Int}:statGo m (x :: r) s=if (procL m s x).1=true then statGo m r (procL m s x).2 else (x.2,false):=rfl
theorem zip_drop {m:ModelD} {i:Nat} {x:ProcD} (hx:m.procs[i]? =some x):m.procs.zipIdx.drop i= (x,i) :: m.procs.zipIdx.drop (i+1):=by
 obtain ⟨hi,rfl⟩:=List.getElem?_eq_some_iff.1 hx;rw [List.drop_eq_getElem_cons (by rw [List.length_zipIdx];exact hi)];simp
structure PS (m:ModelD) (R:Int × Bool) (i:Nat) (x:ProcD) (seen:List Int) (r1:Bool × List Int):Prop where
 eq:stopF (locL m i) x.locs seen=r1
 no:r1.1=false→R= ((i:Int),false)
 yes:r1.1=true→¬0≤x.provided→statGo m (m.procs.zipIdx.drop (i+1)) r1.2=R
 pno:r1.1=true→0≤x.provided→ (usesL m i r1.2 x.provided).1=false→R= ((i:Int),false)
 pyes:r1.1=true→0≤x.provided→ (usesL m i r1.2 x.provided).1=true→statGo m (m.procs.zipIdx.drop (i+1)) (usesL m i r1.2 x.provided).2=R
theorem PS.of {m:ModelD} {R:Int × Bool} {i:Nat} {x:ProcD} {seen:List Int} (hx:m.procs[i]? =some x) (h:statGo m (m.procs.zipIdx.drop i) seen=R):PS m R i x seen (stopF (locL m i) x.locs seen):=by
 rw [zip_drop hx,statGo_cons] at h;unfold procL at h;simp only at h;refine ⟨rfl,fun h1=> ?_,fun h1 h2=> ?_,fun h1 h2 h3=> ?_,fun h1 h2 h3=> ?_⟩
 · rw [h1] at h;exact h.symm
 · rw [if_pos h1,if_neg h2] at h;exact h
 · rw [if_pos h1,if_pos h2,h3] at h;exact h.symm
 · rw [if_pos h1,if_pos h2,if_pos h3] at h;exact h
theorem stat_start {B p:Nat} {h:MH} {m:ModelD} {w w2:World} (hB:B≤p) (hmd:MD B w h m) (hk:w.heap[p]? =some (.cells (kCells h m (.slice none 0 0) (.slice none 0 0)) 104 (0,0)))
 (hown:w2.ownsRow B 3 1 (.slice (some ⟨w.heap.size,0,none⟩) m.exprs.length m.exprs.length) m.exprs.length (madeCells #[Value.int .i64 0] m.exprs.length).toList) (hg:w.grownBy w2 none):
 UJ B p w.heap.size h m (List.replicate m.exprs.length 0) [] (w2.setCell ⟨p,7,none⟩ (.slice (some ⟨w.heap.size,0,none⟩) m.exprs.length m.exprs.length))∧Below B w (w2.setCell ⟨p,7,none⟩ (.slice (some ⟨w.heap.size,0,none⟩) m.exprs.length m.exprs.length)):=by
 have hlt:p < w.heap.size:=lt_of_block hk;have hb0:Below w.heap.size w w2:=(Below.refl _ _).grown hg (Nat.le_refl _) (fun k hk=>by cases hk);have hp2:=(hb0.block _ hlt).trans hk;have hb:Below B w (w2.setCell ⟨p,7,none⟩ (.slice (some ⟨w.heap.size,0,none⟩) m.exprs.length m.exprs.length)):=(hb0.mono (by omega)).setCell hB _;refine ⟨⟨.slice none 0 0,hB,hmd.below hb, ?_,World.ownsRow_nil _ _ _ _,by simp [Value.ownBlock], ?_⟩,hb⟩
 · rw [heap_setCell_same _ _ _ _ _ _ hp2];rfl
 · have e: (madeCells #[Value.int .i64 0] m.exprs.length).toList=leftV (List.replicate m.exprs.length 0):=by
    unfold leftV;rw [List.map_replicate];exact toList_madeCells_one _ _
   rw [←e];exact owns_set hown _ _ (by simp [Value.ownBlock];omega)
set_option maxHeartbeats 8000000 in
set_option maxRecDepth 100000 in
theorem statementsC {B p:Nat} {h:MH} {m:ModelD} (w:World) (hB:B≤p) (hmd:MD B w h m) (hk:w.heap[p]? =some (.cells (kCells h m (.slice none 0 0) (.slice none 0 0)) 104 (0,0))) (hx:EX m)
 (hprov:∀ (i:Nat) (x:ProcD),m.procs[i]? =some x→x.provided < m.exprs.length):
 Calls Tryd.prog 49 #[.pointer (some ⟨p,0,none⟩)] w fun e w'=>e= .returned (.tuple #[.int .i64 (statementsL m).1,.bool (statementsL m).2])∧Below B w w':=by
 have HEX:=Lib.hid hx;have HPR:=Lib.hid hprov;have hplt:p < w.heap.size:=lt_of_block hk;have hBw:B≤w.heap.size:=by omega
 have HST:=Lib.hid fun w2 hown hg=>stat_start (w2:=w2) hB hmd hk hown hg
 obtain ⟨R,hR⟩:∃R,statementsL m=R:=⟨_,rfl⟩;have HR0:Hid (statGo m (m.procs.zipIdx.drop 0) (List.replicate m.exprs.length 0)=R):=Lib.hid (by rw [←hR];rfl);rw [hR];have c6:w.cell? ⟨p,6,none⟩=some (.slice h.eo m.exprs.length h.ec):=(cell_of_row _ _ _ _ _ _ hk).trans rfl;have HKC:Hid (∃cs,w.heap[p]? =some (.cells cs 104 (0,0))):=Lib.hid ⟨_,hk⟩;have hpl:m.procs.length≤140737488355328:=hmd.procs.1;have hel:m.exprs.length≤4096:=hx.le;have HPAT:Hid (∀ (i:Nat) (x:ProcD),m.procs[i]? =some x→∃g off lo lc,h.po=some ⟨g,off,none⟩∧x.locs.length≤140737488355328∧∀W,Below B w W→W.cell? ⟨g,off+i*10+4,none⟩=some (.slice lo x.locs.length lc)∧W.cell? ⟨g,off+i*10+9,none⟩=some (.int .i64 x.provided)∧Row B lo 7 (locAt B W) x.locs):=Lib.hid fun i x hx=>by
  obtain ⟨g,off,ho,hg,hpa⟩:=hmd.procs.get hx;obtain ⟨lo,lc,h1,h2⟩:=hpa.locs;exact ⟨g,off,lo,lc,ho,h2.1,fun W hb=>⟨(hb.cell hg).trans h1,(hb.cell hg).trans hpa.c9,h2.mono fun _ _ _ hg'=>locAt.below hb hg'⟩⟩
 obtain ⟨i3,hi3,hz0,hz1,hz2⟩:=info_parts info_int;have HI:=Lib.hid (And.intro hi3 (And.intro hz0 (And.intro hz1 hz2)));have HL1:Hid (m.exprs.length≤maxLen):=Lib.hid (by unfold maxLen;omega);have HL2:Hid (i3.bytes*m.exprs.length≤281474976710656):=Lib.hid (by rw [HI.out.2.2.2];omega);clear hi3 hz0 hz1 hz2 hR hk hmd hx hprov;go_enter Tryd.func49,Tryd.ntmps49;go_wp2_with (refine wpList_make_full _ rfl _ _ 25 rfl B 3 i3 (.int .i64 0) 1 Tryd.underlying25 HI.out.1 HI.out.2.1 HI.out.2.2.1 .i64 .i64 _ _ m.exprs.length rfl rfl rfl rfl HL2.out HL1.out hBw ?_);intro w2 hown hgrow;have hs:=HST.out w2 hown hgrow;have HUJ:=Lib.hid hs.1;have HB1:=Lib.hid hs.2;have HC2:Hid (∃cs,w2.heap[p]? =some (.cells cs 104 (0,0))∧∃v,w2.cell? ⟨p,7,none⟩=some v):=Lib.hid (by
  obtain ⟨lv,k⟩:=HUJ.out;obtain ⟨cs,hcs⟩:=HKC.out;have h2:w2.heap[p]? =some (.cells cs 104 (0,0)):=(hgrow.block p hplt (by simp)).trans hcs;have h3:=k.kp;rw [heap_setCell_same _ _ _ _ _ _ h2] at h3;injection h3 with h3
  injection h3 with h3
  refine ⟨cs,h2, ?_⟩;have h4:7 < cs.size:=by
   have h5:=congrArg Array.size h3;simp [kCells] at h5;omega
  exact ⟨cs[7],(cell_of_row _ _ _ _ _ _ h2).trans (Array.getElem?_eq_getElem h4)⟩)
 obtain ⟨cs,hc1,v7,hc2⟩:=HC2.out;have f7:w2.frozen? ⟨p,7,none⟩=false:=frozen_of_row _ _ _ _ _ hc1;clear hs hown hgrow c6 hc1;go_upto_region 2 with (fail)
 clear hc2 f7;generalize w2.setCell ⟨p,7,none⟩ (.slice (some ⟨w.heap.size,0,none⟩) m.exprs.length m.exprs.length)=W1 at HUJ HB1 ⊢;generalize w.heap.size=sb at HUJ ⊢;have HSJ0:Hid (SJ B p sb h m R W1 0 W1):=Lib.hid ⟨_,_,HR0.out,HUJ.out,Gn.refl _ _⟩;have c4:W1.cell? ⟨p,4,none⟩=some (.slice h.po m.procs.length h.pc):=by
  obtain ⟨lv,k⟩:=HUJ.out;exact k.ck.c4
 clear HUJ HR0;go_wp2_with fail;clear c4
 go_loopw [26] (fun iv W=>∃i:Nat,iv= .int .i64 i∧i≤m.procs.length∧Hid (SJ B p sb h m R W1 i W)) (fun iv _=>m.procs.length - (intOf iv).toNat)
 case atStart=>exact ⟨0,rfl,by omega,HSJ0⟩
 case round=>
  clear HSJ0;obtain ⟨i,rfl,hi,HS⟩:=hrel;have hi0: (0:Int)≤i:=by omega
  by_cases hlt:i < m.procs.length
  · have hlti: (i:Int) < m.procs.length:=by omega
    obtain ⟨x,hpx⟩:∃x,m.procs[i]? =some x:=⟨_,List.getElem?_eq_getElem hlt⟩;obtain ⟨g,off,lo,lc,ho,hll,hat⟩:=HPAT.out i x hpx;have HAT:=Lib.hid hat;obtain ⟨seen,left,hs1,hs2,hs3⟩:=HS.out;have hps:=PS.of hpx hs1;generalize stopF (locL m i) x.locs seen=r1 at hps;have HPS:=Lib.hid hps;have hprov:=HPR.out i x hpx;have HBW:Hid (Below B w wr):=Lib.hid (HB1.out.trans hs3.bel);have HFJ:Hid (FJ (locL m i) B p sb h m r1 W1 (x.locs.drop 0) wr):=Lib.hid ⟨seen,left,hps.eq,hs2,hs3⟩;have hww:=hat wr HBW.out;have d4:=hww.1;have c4:wr.cell? ⟨p,4,none⟩=some (.slice (some ⟨g,off,none⟩) m.procs.length h.pc):=by rw [←ho];exact HFJ.out.ck.c4
    clear hat hs1 hs2 hs3 hps hww ho HS hpx;go_wp2_with fail;clear c4 d4
    go_loopw [41] (fun iv W=>∃j:Nat,iv= .int .i64 j∧j≤x.locs.length∧Hid (FJ (locL m i) B p sb h m r1 W1 (x.locs.drop j) W)) (fun iv _=>x.locs.length - (intOf iv).toNat)
    case atStart=>exact ⟨0,rfl,by omega,HFJ⟩
    case round=>
     clear HFJ HBW;obtain ⟨j,rfl,hj,HJ⟩:=hrel;have hj0: (0:Int)≤j:=by omega
     have HBW:Hid (Below B w wr):=Lib.hid (HB1.out.trans HJ.out.gn.bel);have d4:=(HAT.out wr HBW.out).1;by_cases hlt2:j < x.locs.length
     · have hlti2: (j:Int) < x.locs.length:=by omega
       obtain ⟨gl,offl,hol,hgl,hloc⟩:=(HAT.out w (Below.refl _ _)).2.2.cell hlt2;obtain ⟨l,hle⟩:∃l,x.locs[j]=l:=⟨_,rfl⟩;rw [hle] at hloc;have HN1:Hid (FJ (locL m i) B p sb h m r1 W1 (l :: x.locs.drop (j+1)) wr):=Lib.hid (by have:=HJ.out;rw [drop_cons hlt2,hle] at this;exact this);obtain ⟨oo,oc,l0,hro⟩:=hloc.out;obtain ⟨eo,ec,l1,hre⟩:=hloc.esc;have HLE:Hid (∀W,Below B w W→W.cell? ⟨gl,offl+j*7,none⟩=some (.slice oo l.out.length oc)∧W.cell? ⟨gl,offl+j*7+1,none⟩=some (.slice eo l.esc.length ec)∧Row B oo 9 (transAt B W) l.out∧Row B eo 1 (escAt B W) l.esc):=Lib.hid fun W hb=>⟨(hb.cell hgl).trans l0,(hb.cell hgl).trans l1,hro.mono fun _ _ _ hg'=>transAt.below hb hg',hre.mono fun _ _ _ hg'=>escAt.below hb hg'⟩
       have hel2:=hre.1;obtain ⟨seen2,left2,q1,q2,q3⟩:=HN1.out;obtain ⟨r2,hr2⟩:∃r2,locL m i seen2 l=r2:=⟨_,rfl⟩;have HV2:Hid (FJ (waysL m i) B p sb h m r2 W1 (l.out :: l.esc) wr):=Lib.hid ⟨seen2,left2,hr2,q2,q3⟩;have HNO:Hid (r2.1=false→R= ((i:Int),false)):=Lib.hid fun h2=>HPS.out.no (by rw [←q1,stopF_no (by rw [hr2];exact h2)])
       have HYES:Hid (r2.1=true→stopF (locL m i) (x.locs.drop (j+1)) r2.2=r1):=Lib.hid fun h2=>by rw [←q1,stopF_yes (by rw [hr2];exact h2),hr2]
       rw [hol] at d4;have l00:=(HLE.out wr HBW.out).1;have HC:=Lib.hid (HV2.out.call (F:=61) (args:=#[.pointer (some ⟨p,0,none⟩),.int .i64 i,.slice oo l.out.length oc]) (fun seen left hj=>waysC i l.out oo oc wr hj HEX.out hlt (HLE.out wr HBW.out).2.2.1));clear hol hle hloc hro hre l0 l1 q1 q2 q3 hr2 HJ HN1;go_wp2_with fail;clear d4 l00;refine HC.out.mono ?_;rintro e W3 ⟨u,rfl,hy,hn⟩;have HY:=Lib.hid hy;have HN:=Lib.hid hn;clear hy hn HC;cases u
       · have HZ:=Lib.hid (HN.out rfl);have HRR:Hid (R= ((i:Int),false)):=Lib.hid (HNO.out HZ.out.is);go_wp2_with fail;go_ret2;exact ⟨retIB (by rw [HRR.out]) (by rw [HRR.out]),HB1.out.trans HZ.out.2.2.bel⟩
       · have HFE:Hid (FJ (waysL m i) B p sb h m r2 W1 (l.esc.drop 0) W3):=Lib.hid (HY.out rfl);have l1':=(HLE.out W3 (HB1.out.trans HFE.out.gn.bel)).2.1;clear HY HN HV2;go_wp2_with fail;clear l1'
         go_loopw [64] (fun iv W=>∃k:Nat,iv= .int .i64 k∧k≤l.esc.length∧Hid (FJ (waysL m i) B p sb h m r2 W1 (l.esc.drop k) W)) (fun iv _=>l.esc.length - (intOf iv).toNat)
         case atStart=>exact ⟨0,rfl,by omega,HFE⟩
         case round=>
          clear HFE HBW;obtain ⟨k,rfl,hk,HK⟩:=hrel;have hk0: (0:Int)≤k:=by omega
          have HBW:Hid (Below B w wr):=Lib.hid (HB1.out.trans HK.out.gn.bel);by_cases hlt3:k < l.esc.length
          · have hlti3: (k:Int) < l.esc.length:=by omega
            obtain ⟨ge,offe,hoe,hge,hes⟩:=(HLE.out wr HBW.out).2.2.2.cell hlt3;obtain ⟨es,hee⟩:∃es,l.esc[k]=es:=⟨_,rfl⟩;rw [hee] at hes;obtain ⟨so,sc,e0,hse⟩:=hes;have HN1:Hid (FJ (waysL m i) B p sb h m r2 W1 (es :: l.esc.drop (k+1)) wr):=Lib.hid (by have:=HK.out;rw [drop_cons hlt3,hee] at this;exact this);have HC:=Lib.hid (HN1.out.call (F:=61) (args:=#[.pointer (some ⟨p,0,none⟩),.int .i64 i,.slice so es.length sc]) (fun seen left hj=>waysC i es so sc wr hj HEX.out hlt hse));rw [Nat.mul_one] at e0;subst hoe;clear hge hee hse HK;go_wp2_with fail;clear e0;refine HC.out.mono ?_;rintro e W4 ⟨u,rfl,hy,hn⟩;have HY:=Lib.hid hy;have HN:=Lib.hid hn;clear hy hn HC;cases u
            · have HZ:=Lib.hid (HN.out rfl);have HRR:Hid (R= ((i:Int),false)):=Lib.hid (HNO.out HZ.out.is);go_wp2_with fail;go_ret2;exact ⟨retIB (by rw [HRR.out]) (by rw [HRR.out]),HB1.out.trans HZ.out.2.2.bel⟩
            · have HZ:=Lib.hid (HY.out rfl);go_wp2_with fail;go_roundw;case rel=>exact ⟨k+1,by go_num,by omega,HZ⟩
              case measure=>simp [intOf];omega
          · have hlti3:¬ (k:Int) < l.esc.length:=by omega
            have HZ:Hid (FJ (locL m i) B p sb h m r1 W1 (x.locs.drop (j+1)) wr):=Lib.hid (by
             have h5:=HK.out;rw [List.drop_of_length_le (by omega)] at h5;have h6:=h5.done;obtain ⟨left6,h7⟩:=h6.2.1;exact ⟨_,left6,HYES.out h6.is,h7,h6.2.2⟩)
            go_wp2_with fail;go_roundw;case rel=>exact ⟨j+1,by go_num,by omega,HZ⟩
            case measure=>simp [intOf];omega
     · have hlti2:¬ (j:Int) < x.locs.length:=by omega
       have HD:Hid (UsesP B p sb h m r1 W1 (.returned (.bool true)) wr):=Lib.hid (by have h5:=HJ.out;rw [List.drop_of_length_le (by omega)] at h5;exact h5.done);have d9:=(HAT.out wr HBW.out).2.1;clear d4 HJ;by_cases hp0:0≤x.provided
       · obtain ⟨q,hq⟩:∃q:Nat,x.provided=q:=⟨x.provided.toNat,by omega⟩;have hdp:decide (0≤ (q:Int))=true:=decide_eq_true (by omega);have HP0:=Lib.hid hp0;have HQ:=Lib.hid hq;have HC:=Lib.hid (by
          obtain ⟨left6,h7⟩:=HD.out.2.1;exact usesC i q wr h7 HEX.out hlt (by omega))
         have hq0: (0:Int)≤q:=by omega
         rw [hq] at d9;clear hp0 hq;go_wp2_with fail;clear d9;refine HC.out.mono ?_;rintro e W5 ⟨rfl,h8,h9⟩;have H8:=Lib.hid h8;have H9:=Lib.hid (HD.out.2.2.trans h9);clear h8 h9 HC;obtain ⟨u,hu⟩:∃u,(usesL m i r1.2 q).1=u:=⟨_,rfl⟩;rw [hu];have HU:=Lib.hid hu;clear hu;cases u
         · have HRR:Hid (R= ((i:Int),false)):=Lib.hid (HPS.out.pno HD.out.is HP0.out (by rw [HQ.out];exact HU.out));go_wp2_with fail;go_ret2;exact ⟨retIB (by rw [HRR.out]) (by rw [HRR.out]),HB1.out.trans H9.out.bel⟩
         · have HZ:Hid (SJ B p sb h m R W1 (i+1) W5):=Lib.hid (by
            obtain ⟨left6,h7⟩:=H8.out;exact ⟨_,left6,by have:=HPS.out.pyes HD.out.is HP0.out (by rw [HQ.out];exact HU.out);rw [HQ.out] at this;exact this,h7,H9.out⟩)
           go_wp2_with fail;go_roundw;case rel=>exact ⟨i+1,by go_num,by omega,HZ⟩
           case measure=>simp [intOf];omega
       · have hdp:decide (0≤x.provided)=false:=decide_eq_false hp0;have HZ:Hid (SJ B p sb h m R W1 (i+1) wr):=Lib.hid (by
          obtain ⟨left6,h7⟩:=HD.out.2.1;exact ⟨_,left6,HPS.out.yes HD.out.is hp0,h7,HD.out.2.2⟩)
         clear hp0;go_wp2_with fail;go_roundw;case rel=>exact ⟨i+1,by go_num,by omega,HZ⟩
         case measure=>simp [intOf];omega
  · have hlti:¬ (i:Int) < m.procs.length:=by omega
    have HRR:Hid (R= (0,true)):=Lib.hid (by
     obtain ⟨seen,left,h1,h2,h3⟩:=HS.out;rw [List.drop_of_length_le (by rw [List.length_zipIdx];omega)] at h1;exact h1.symm)
    have HBE:=Lib.hid (HB1.out.trans (by obtain ⟨seen,left,h1,h2,h3⟩:=HS.out;exact h3.bel));go_wp2_with fail;go_ret2;exact ⟨retIB (by rw [HRR.out]) (by rw [HRR.out]),HBE.out⟩
end Go.Proofs.YtnoibjahliafpaaDoor
namespace Go.Proofs.YtnoibjahliafpaaDoor
open Go.ChangeShapes Go.WideShapes Go.ChangeAt Go.RowKit
section
variable {B B':Nat} {w:World} (hB:B≤B')
include hB
theorem Row.lift {α:Type} {o:Option Addr} {k:Nat} {R R':Nat→Nat→α→Prop} {l:List α} (h:Row B o k R l) (hR:∀g a x,g < B→R g a x→R' g a x):Row B' o k R' l:=(h.mono hR).up hB
theorem Sli.lift {α:Type} {g a k:Nat} {R R':Nat→Nat→α→Prop} {l:List α} (h:Sli B w g a k R l) (hR:∀g a x,g < B→R g a x→R' g a x):Sli B' w g a k R' l:=by
 obtain ⟨o,c,h1,h2⟩:=h;exact ⟨o,c,h1,h2.lift hB hR⟩
theorem varAt.lift {g a:Nat} {x:VarD} (h:varAt B w g a x):varAt B' w g a x:=⟨h.c0,h.c1,h.c2,h.c3,h.dims.lift hB fun _ _ _ _ h=>h⟩
theorem exprAt.lift {g a:Nat} {x:ExprD} (h:exprAt B w g a x):exprAt B' w g a x:=⟨h.c0,h.c1,h.c2,h.c3,h.c4,h.v.lift hB,h.args.lift hB fun _ _ _ _ h=>h,h.mat.lift hB fun _ _ _ _ h=>h⟩
theorem stmtAt.lift {g a:Nat} {x:StmtD} (h:stmtAt B w g a x):stmtAt B' w g a x:=⟨h.c0,h.c1,h.c2,h.c3,h.args.lift hB fun _ _ _ _ h=>h,h.mat.lift hB fun _ _ _ _ h=>h,h.c6⟩
theorem transAt.lift {g a:Nat} {x:TransD} (h:transAt B w g a x):transAt B' w g a x:=⟨h.s.lift hB,h.c7,h.c8⟩
theorem escAt.lift {g a:Nat} {x:List TransD} (h:escAt B w g a x):escAt B' w g a x:=Sli.lift hB h fun _ _ _ _ h=>h.lift hB
theorem locAt.lift {g a:Nat} {x:LocD} (h:locAt B w g a x):locAt B' w g a x:=⟨h.out.lift hB fun _ _ _ _ h=>h.lift hB,h.esc.lift hB fun _ _ _ _ h=>h.lift hB,h.c2,h.c3,h.c4,h.c5,h.c6⟩
theorem procAt.lift {g a:Nat} {x:ProcD} (h:procAt B w g a x):procAt B' w g a x:=⟨h.c0,h.c1,h.frame.lift hB fun _ _ _ _ h=>h,h.init.lift hB fun _ _ _ _ h=>h,h.locs.lift hB fun _ _ _ _ h=>h.lift hB,h.c5,h.c6,h.c7,h.c8,h.c9⟩
theorem shapeAt.lift {g a:Nat} {x:ShapeD} (h:shapeAt B w g a x):shapeAt B' w g a x:=⟨h.c0,h.fields.lift hB fun _ _ _ _ h=>h⟩
theorem MD.lift {h:MH} {m:ModelD} (hm:MD B w h m):MD B' w h m:=
 ⟨hm.globals.lift hB fun _ _ _ _ h=>h,hm.init.lift hB fun _ _ _ _ h=>h,hm.shapes.lift hB fun _ _ _ _ h=>h.lift hB,hm.chans.lift hB fun _ _ _ _ h=>h,hm.procs.lift hB fun _ _ _ _ h=>h.lift hB,hm.exprs.lift hB fun _ _ _ _ h=>h.lift hB⟩
end
end Go.Proofs.YtnoibjahliafpaaDoor
