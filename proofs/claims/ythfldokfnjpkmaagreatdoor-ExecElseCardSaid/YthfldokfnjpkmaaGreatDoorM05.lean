/- All expressions: each by itself, and whether each is a part of one at most. -/
import Derived.Test.YthfldokfnjpkmaaGreatDoorM04
import Derived.Lib.OwnKind
import Derived.Test.YthfldokfnjpkmaaGreatDoorM03
import Derived.Deep.AppendLies
import Derived.Deep.RegionLaw
import Derived.Deep.DrawnRows
import Derived.StillTailTactics
set_option linter.unusedVariables false
set_option linter.unusedSimpArgs false
namespace Go.Proofs.YthfldokfnjpkmaaGreatDoor
open Go.ChangeShapes Go.WideShapes Go.ChangeAt Go.RowKit
theorem owns_below {w w':World} {B size n:Nat} {e:TypeId} {v:Value} {xs:List Value} (h:w.ownsRow B e size v n xs) (hb:Below w.heap.size w w'):w'.ownsRow B e size v n xs:=
 h.kept (row:=none) ⟨hb.os,hb.tape,hb.output,hb.size,fun k hk _=>hb.block k hk⟩ (by cases v.ownBlock <;> simp)
theorem owns_set {w:World} {B size n:Nat} {e:TypeId} {v:Value} {xs:List Value} (h:w.ownsRow B e size v n xs) (a:Addr) (u:Value) (hne:v.ownBlock≠some a.block): (w.setCell a u).ownsRow B e size v n xs:=
 h.kept (row:=some a.block) ⟨rfl,rfl,rfl,by simp [World.setCell],fun k hk hka=>heap_setCell_other _ _ _ _ fun e=>hka (by rw [e])⟩ (.inr hne)
theorem owns_neObj {w:World} {B size n:Nat} {e T:TypeId} {v:Value} {xs:List Value} (h:w.ownsRow B e size v n xs) {b:Nat} {cs:Array Value} {fr:Nat × Nat} (hb:w.heap[b]? =some (.cells cs T fr)) (hT:e≠T):v.ownBlock≠some b:=by
 intro hv;obtain ⟨c,fz,h1⟩:=Lib.ownsRow_kind h b hv;rw [h1] at hb;injection hb with h2
 injection h2 with _ h2
 exact hT h2
theorem obj_ne {w:World} {a b:Nat} {c1 c2:Array Value} {T1 T2:TypeId} {f1 f2:Nat × Nat} (h1:w.heap[a]? =some (.cells c1 T1 f1)) (h2:w.heap[b]? =some (.cells c2 T2 f2)) (hT:T1≠T2):a≠b:=by
 rintro rfl;rw [h1] at h2;injection h2 with h2
 injection h2 with _ h2
 exact hT h2
theorem info_parts {t:TypeId} {z:Value} {a b:Nat} (h: (Tryz.prog.info? t).map (fun i=>(i.zero,i.size,i.bytes))=some (some z,a,b)):∃i,Tryz.prog.info? t=some i∧i.zero=some z∧i.size=a∧i.bytes=b:=by
 cases hi:Tryz.prog.info? t with
 | none=>rw [hi] at h;cases h
 | some i=>
   rw [hi] at h;simp only [Option.map_some,Option.some.injEq,Prod.mk.injEq] at h;exact ⟨i,rfl,h.1,h.2.1,h.2.2⟩
theorem info_bool: (Tryz.prog.info? 4).map (fun i=>(i.zero,i.size,i.bytes))=some (some (.bool false),1,1):=by kernel_rfl
theorem info_int: (Tryz.prog.info? 3).map (fun i=>(i.zero,i.size,i.bytes))=some (some (.int .i64 0),1,8):=by kernel_rfl
def boolsV (l:List Bool):List Value:=l.map .bool
structure EK (w0:World) (h:MH) (m:ModelD) (ms bt T n:Nat) (t:List Bool) (W:World):Prop where
 bel:Below w0.heap.size w0 W
 cm:W.heap[ms]? =some (.cells (mCells h m) 29 (0,0))
 ct:W.heap[bt]? =some (.cells #[.slice (some ⟨T,0,none⟩) n n] 34 (0,0))
 row:W.ownsRow w0.heap.size 4 1 (.slice (some ⟨T,0,none⟩) n n) n (boolsV t)
theorem EK.below {w0 W W':World} {h:MH} {m:ModelD} {ms bt T n:Nat} {t:List Bool} (k:EK w0 h m ms bt T n t W) (hb:Below W.heap.size W W'):EK w0 h m ms bt T n t W':=
 ⟨k.bel.trans (hb.mono k.bel.size),(hb.block _ (lt_of_block k.cm)).trans k.cm,(hb.block _ (lt_of_block k.ct)).trans k.ct,owns_below k.row hb⟩
structure TK (w0:World) (h:MH) (m:ModelD) (ms bi bt bo T i n:Nat) (s:List Bool × Bool) (W:World):Prop where
 ek:EK w0 h m ms bt T n s.1 W
 ci:W.heap[bi]? =some (.cells #[.int .i64 i] 3 (0,0))
 co:W.heap[bo]? =some (.cells #[.bool s.2] 4 (0,0))
 ne:T≠bo
 lo:w0.heap.size≤bo
theorem TK.below {w0 W W':World} {h:MH} {m:ModelD} {ms bi bt bo T i n:Nat} {s:List Bool × Bool} (k:TK w0 h m ms bi bt bo T i n s W) (hb:Below W.heap.size W W'):TK w0 h m ms bi bt bo T i n s W':=
 ⟨k.ek.below hb,(hb.block _ (lt_of_block k.ci)).trans k.ci,(hb.block _ (lt_of_block k.co)).trans k.co,k.ne,k.lo⟩
theorem TK.no {w0 W:World} {h:MH} {m:ModelD} {ms bi bt bo T i n:Nat} {s:List Bool × Bool} (k:TK w0 h m ms bi bt bo T i n s W):TK w0 h m ms bi bt bo T i n (s.1,false) (W.setCell ⟨bo,0,none⟩ (.bool false)):=by
 have n1:=obj_ne k.ek.cm k.co (by decide);have n2:=obj_ne k.ek.ct k.co (by decide);have n3:=obj_ne k.ci k.co (by decide);refine ⟨⟨k.ek.bel.setCell k.lo _, ?_, ?_,owns_set k.ek.row _ _ (by intro e;injection e with e;exact k.ne e)⟩, ?_, ?_,k.ne,k.lo⟩
 · rw [heap_setCell_other _ _ _ _ (by exact n1)];exact k.ek.cm
 · rw [heap_setCell_other _ _ _ _ (by exact n2)];exact k.ek.ct
 · rw [heap_setCell_other _ _ _ _ (by exact n3)];exact k.ci
 · rw [heap_setCell_same _ _ _ _ _ _ k.co];rfl
theorem TK.yes {w0 W:World} {h:MH} {m:ModelD} {ms bi bt bo T i n q:Nat} {s:List Bool × Bool} (k:TK w0 h m ms bi bt bo T i n s W):TK w0 h m ms bi bt bo T i n (s.1.set q true,s.2) (W.setCell ⟨T,q,none⟩ (.bool true)):=by
 have n1:ms≠T:=fun e=>owns_neObj k.ek.row k.ek.cm (by decide) (by rw [e];rfl)
 have n2:bt≠T:=fun e=>owns_neObj k.ek.row k.ek.ct (by decide) (by rw [e];rfl)
 have n3:bi≠T:=fun e=>owns_neObj k.ek.row k.ci (by decide) (by rw [e];rfl)
 refine ⟨⟨k.ek.bel.setCell (k.ek.row.lt T rfl).1 _, ?_, ?_, ?_⟩, ?_, ?_,k.ne,k.lo⟩
 · rw [heap_setCell_other _ _ _ _ (by exact n1)];exact k.ek.cm
 · rw [heap_setCell_other _ _ _ _ (by exact n2)];exact k.ek.ct
 · have:=(k.ek.row.stored q (.bool true)).1;unfold boolsV at this ⊢;rw [List.map_set];exact this
 · rw [heap_setCell_other _ _ _ _ (by exact n3)];exact k.ci
 · rw [heap_setCell_other _ _ _ _ (by exact fun e=>k.ne e.symm)];exact k.co
theorem TK.len {w0 W:World} {h:MH} {m:ModelD} {ms bi bt bo T i n:Nat} {s:List Bool × Bool} (k:TK w0 h m ms bi bt bo T i n s W):s.1.length=n:=by
 have:=k.ek.row.1;simpa [boolsV] using this
theorem TK.cell {w0 W:World} {h:MH} {m:ModelD} {ms bi bt bo T i n:Nat} {s:List Bool × Bool} (k:TK w0 h m ms bi bt bo T i n s W) {q:Nat} (hq:q < n):W.cell? ⟨T,q,none⟩=some (.bool (s.1.getD q false)):=by
 have hl:=k.len;refine (World.ownsRow.cellAt k.ek.row q (by omega)).trans ?_;unfold boolsV;rw [List.getElem?_map,List.getElem?_eq_getElem (by omega)];simp [List.getD,List.getElem?_eq_getElem (show q < s.1.length by omega)]
set_option maxHeartbeats 1000000 in
set_option maxRecDepth 100000 in
theorem expressions1C {w0 W:World} {h:MH} {m:ModelD} {ms bi bt bo T i n:Nat} {s:List Bool × Bool} (q:Int) (k:TK w0 h m ms bi bt bo T i n s W) (hi:i≤n) (hn:n≤140737488355328):
 Calls Tryz.prog 173 #[.int .i64 q,.pointer (some ⟨bi,0,none⟩),.pointer (some ⟨bt,0,none⟩),.pointer (some ⟨bo,0,none⟩)] W fun e W'=>e= .returned (.tuple #[])∧TK w0 h m ms bi bt bo T i n (takePart i s q) W'∧Below w0.heap.size W W'∧W.heap.size≤W'.heap.size∧Box3 W W':=by
 have HK:=Lib.hid k;have c1:W.cell? ⟨bi,0,none⟩=some (.int .i64 i):=(cell_of_row _ _ _ _ _ _ k.ci).trans rfl;have c2:W.cell? ⟨bt,0,none⟩=some (.slice (some ⟨T,0,none⟩) n n):=(cell_of_row _ _ _ _ _ _ k.ek.ct).trans rfl;have c3:W.cell? ⟨bo,0,none⟩=some (.bool s.2):=(cell_of_row _ _ _ _ _ _ k.co).trans rfl;have f3:W.frozen? ⟨bo,0,none⟩=false:=frozen_of_row _ _ _ _ _ k.co;have HNO:Hid (TK w0 h m ms bi bt bo T i n (s.1,false) (W.setCell ⟨bo,0,none⟩ (.bool false))∧Below w0.heap.size W (W.setCell ⟨bo,0,none⟩ (.bool false))∧W.heap.size≤ (W.setCell ⟨bo,0,none⟩ (.bool false)).heap.size∧Box3 W (W.setCell ⟨bo,0,none⟩ (.bool false))):=
  Lib.hid ⟨k.no,(Below.refl _ _).setCell k.lo _,by simp [World.setCell],fun b cs fr hb=>by rw [heap_setCell_other _ _ _ _ (by exact obj_ne hb k.co (by decide))];exact hb⟩
 clear k;by_cases hbad:q < 0∨ (i:Int)≤q
 · have HT:Hid (takePart i s q= (s.1,false)):=Lib.hid (by unfold takePart;rw [if_pos (by omega)]);by_cases h1:q < 0
   · clear hbad;go_enter Tryz.func173,Tryz.ntmps173;go_wp2_with fail;refine bodyPost_ret (v:= .tuple #[]) (by simp [results,Tryz.results173,go_sem]) rfl ?_;exact ⟨rfl,by rw [HT.out];exact HNO.out.1,HNO.out.2⟩
   · have h2: (i:Int)≤q:=by omega
     clear hbad;go_enter Tryz.func173,Tryz.ntmps173;go_wp2_with fail;refine bodyPost_ret (v:= .tuple #[]) (by simp [results,Tryz.results173,go_sem]) rfl ?_;exact ⟨rfl,by rw [HT.out];exact HNO.out.1,HNO.out.2⟩
 · obtain ⟨j,rfl⟩:∃j:Nat,q=j:=⟨q.toNat,by omega⟩;have hj: (j:Int) < i:=by omega
   have hjn: (j:Int) < n:=by omega
   have hj0:¬ (j:Int) < 0:=by omega
   have c4:=HK.out.cell (q:=j) (by omega);have f4:W.frozen? ⟨T,j,none⟩=false:=HK.out.ek.row.frozenAt j;have HYES:Hid (TK w0 h m ms bi bt bo T i n (s.1.set j true,s.2) (W.setCell ⟨T,j,none⟩ (.bool true))∧Below w0.heap.size W (W.setCell ⟨T,j,none⟩ (.bool true))∧W.heap.size≤ (W.setCell ⟨T,j,none⟩ (.bool true)).heap.size∧Box3 W (W.setCell ⟨T,j,none⟩ (.bool true))):=
    Lib.hid ⟨HK.out.yes,(Below.refl _ _).setCell (HK.out.ek.row.lt T rfl).1 _,by simp [World.setCell],fun b cs fr hb=>by
     rw [heap_setCell_other _ _ _ _ (by exact fun e=>owns_neObj HK.out.ek.row hb (by decide) (by rw [e];rfl))];exact hb⟩
   obtain ⟨u,hu⟩:∃u,s.1.getD j false=u:=⟨_,rfl⟩;rw [hu] at c4;have HU:=Lib.hid hu;clear hu;cases u
   · have HT:Hid (takePart i s j= (s.1.set j true,s.2)):=Lib.hid (by unfold takePart;rw [if_neg (by rw [Int.toNat_natCast,HU.out];simp;omega),Int.toNat_natCast]);clear hbad;go_enter Tryz.func173,Tryz.ntmps173;go_wp2_with fail;go_end0;exact ⟨rfl,by rw [HT.out];exact HYES.out.1,HYES.out.2⟩
   · have HT:Hid (takePart i s j= (s.1,false)):=Lib.hid (by unfold takePart;rw [if_pos (by rw [Int.toNat_natCast];exact .inr (.inr HU.out))]);clear hbad;go_enter Tryz.func173,Tryz.ntmps173;go_wp2_with fail;refine bodyPost_ret (v:= .tuple #[]) (by simp [results,Tryz.results173,go_sem]) rfl ?_;exact ⟨rfl,by rw [HT.out];exact HNO.out.1,HNO.out.2⟩
theorem run_expressions1 (args:Array Value) (w:World): (callFunc 173 args).run Tryz.prog w= .ok (.enter 173 args) w:=by
 have h1: (Tryz.f173.name == "runtime.NumGoroutine")=false:=by kernel_rfl
 have h2:Tryz.f173.body.isNone=false:=by kernel_rfl
 simp only [beq_eq_false_iff_ne,ne_eq] at h1;have h3:¬Tryz.f173.body=none:=by
  intro e;rw [e] at h2;cases h2
 simp [callFunc,go_sem,Tryz.func173,h1,h3]
theorem doer1 (w0:World) (h:MH) (m:ModelD) (ms bi bt bo T i n B:Nat) (hi:i≤n) (hn:n≤140737488355328) (hB:B≤w0.heap.size):Doer B 173 #[.pointer (some ⟨bi,0,none⟩),.pointer (some ⟨bt,0,none⟩),.pointer (some ⟨bo,0,none⟩)] (takePart i) (fun s W=>TK w0 h m ms bi bt bo T i n s W) (fun _ _=>True) where
 call s W q k _:=(expressions1C q k hi hn).mono fun e W' ⟨h1,h2,h3,h4,h5⟩=>⟨h1,h2,h3.mono hB,h4,h5⟩
 below s W W' k hb:=k.below hb
 run:=run_expressions1
theorem mk_drop {α:Type} {l:List α} {k:Nat} {x:α} (h:l[k]? =some x):l.drop k=x :: l.drop (k+1):=by
 obtain ⟨hk,rfl⟩:=List.getElem?_eq_some_iff.1 h;exact List.drop_eq_getElem_cons hk
theorem EK.start {w w2:World} {h:MH} {m:ModelD} {n:Nat} (hc: (w.alloc (Obj.cells (mCells h m) 29)).grownBy w2 none) (ho:w2.ownsRow w.heap.size 4 1 (.slice (some ⟨w.heap.size+1,0,none⟩) n n) n (madeCells #[Value.bool false] n).toList):
 EK w h m w.heap.size w2.heap.size (w.heap.size+1) n (List.replicate n false) (w2.alloc (.cells #[.slice (some ⟨w.heap.size+1,0,none⟩) n n] 34)):=by
 have hb:Below w.heap.size w w2:=(ball (w:=w) (Obj.cells (mCells h m) 29)).grown hc (by simp) (fun k hk=>by cases hk);have hb2:Below (w.alloc (Obj.cells (mCells h m) 29)).heap.size (w.alloc (Obj.cells (mCells h m) 29)) w2:=(Below.refl _ _).grown hc (Nat.le_refl _) (fun k hk=>by cases hk);have hms:w2.heap[w.heap.size]? =some (.cells (mCells h m) 29 (0,0)):=(hb2.block _ (by simp)).trans (heap_alloc_new _ _);refine ⟨hb.trans ((ball _).mono hb.size),(Below.block (ball _) _ (lt_of_block hms)).trans hms,heap_alloc_new _ _, ?_⟩;have e: (madeCells #[Value.bool false] n).toList=boolsV (List.replicate n false):=by
  unfold boolsV;rw [List.map_replicate];exact toList_madeCells_one _ _
 rw [←e];exact ho.alloc _
set_option maxHeartbeats 4000000 in
set_option maxRecDepth 100000 in
theorem expressionsC {B p:Nat} {h:MH} {m:ModelD} (w:World) (hk:Ck B w p h m):
 Calls Tryz.prog 146 #[.pointer (some ⟨p,0,none⟩)] w fun e w'=>e= .returned (.tuple #[.int .i64 (expressionsL m).1,.bool (expressionsL m).2])∧Below w.heap.size w w':=by
 have HK:=Lib.hid hk;have c0:=hk.c0;have c1:=hk.c1;have c2:=hk.c2;have c3:=hk.c3;have c4:=hk.c4;have c5:=hk.c5;have c6:=hk.c6;have l1:=hk.md.procs.1;have l2:=hk.md.exprs.1;have HMC:Hid ((w.alloc (Obj.cells (mCells h m) 29)).heap[w.heap.size]? =some (.cells (mCells h m) 29 (0,0))∧Below w.heap.size w (w.alloc (Obj.cells (mCells h m) 29))):=Lib.hid ⟨heap_alloc_new _ _,ball _⟩;clear hk;unfold mCells at HMC;by_cases hbad:m.procs.length < 1∨16 < m.procs.length∨m.claim < -1∨ (m.procs.length:Int)≤m.claim∨4096 < m.exprs.length
 · have HV:Hid (expressionsL m= (-1,false)):=Lib.hid (by unfold expressionsL exprsHead;rw [decide_eq_true (by exact hbad)];rfl);go_enter Tryz.func146,Tryz.ntmps146;go_wp2
   all_goals first | (exfalso;omega) | (go_ret2;exact ⟨retIB (by rw [HV.out]) (by rw [HV.out]),HMC.out.2⟩)
 · have HV:Hid (exprsGo m m.exprs 0 (List.replicate m.exprs.length false)=expressionsL m):=Lib.hid (by unfold expressionsL exprsHead;rw [decide_eq_false (by exact hbad)];rfl);generalize expressionsL m=R at HV ⊢;obtain ⟨r1,r2⟩:=R;simp only;have g1:¬m.procs.length < 1:=fun h=>hbad (.inl h)
   have g2:¬16 < m.procs.length:=fun h=>hbad (.inr (.inl h))
   have g3:¬m.claim < -1:=fun h=>hbad (.inr (.inr (.inl h)))
   have g4:¬ (m.procs.length:Int)≤m.claim:=fun h=>hbad (.inr (.inr (.inr (.inl h))))
   have g5:¬4096 < m.exprs.length:=fun h=>hbad (.inr (.inr (.inr (.inr h))))
   clear hbad;obtain ⟨i4,hi4,hz0,hz1,hz2⟩:=info_parts info_bool;have HI:=Lib.hid (And.intro hi4 (And.intro hz0 (And.intro hz1 hz2)));clear hi4 hz0 hz1 hz2;have HL1:Hid (m.exprs.length≤maxLen):=Lib.hid (by unfold maxLen;omega);have HL2:Hid (i4.bytes*m.exprs.length≤281474976710656):=Lib.hid (by rw [HI.out.2.2.2];omega);go_enter Tryz.func146,Tryz.ntmps146;go_wp2_with (refine wpList_make_full _ rfl _ _ 34 rfl w.heap.size 4 i4 (.bool false) 1 Tryz.underlying34 HI.out.1 HI.out.2.1 HI.out.2.2.1 .i64 .i64 _ _ m.exprs.length rfl rfl rfl rfl HL2.out HL1.out HMC.out.2.size ?_);intro w2 hown hgrow;have HEK:=Lib.hid (EK.start (h:=h) (m:=m) hgrow hown);have HB:Hid (B≤w.heap.size):=Lib.hid (by have:=HK.out.le;have:=HK.out.lt;omega);clear hown hgrow c0 c1 c2 c3 c4 c5 c6;have c6: (w2.alloc (Obj.cells #[.slice (some ⟨w.heap.size+1,0,none⟩) m.exprs.length m.exprs.length] 34)).cell? ⟨w.heap.size,6,none⟩=some (.slice h.eo m.exprs.length h.ec):=(cell_of_row _ _ _ _ _ _ HEK.out.cm).trans rfl;go_wp2_with fail;clear c6;generalize w2.alloc (Obj.cells #[.slice (some ⟨w.heap.size+1,0,none⟩) m.exprs.length m.exprs.length] 34)=W0 at HEK ⊢;generalize w2.heap.size=bt at HEK ⊢;generalize w.heap.size+1=T at HEK ⊢
   go_loopw [49] (fun iv W=>∃ (k:Nat) (t:List Bool),iv= .int .i64 k∧k≤m.exprs.length∧Hid (exprsGo m (m.exprs.drop k) k t= (r1,r2))∧Hid (EK w h m w.heap.size bt T m.exprs.length t W)) (fun iv _=>m.exprs.length - (intOf iv).toNat)
   case atStart=>exact ⟨0,_,rfl,by omega,HV,HEK⟩
   case round=>
    clear HV HEK;obtain ⟨k,t,rfl,hk,HG,HE⟩:=hrel;have hk0: (0:Int)≤k:=by omega
    by_cases hlt:k < m.exprs.length
    · have hlti: (k:Int) < m.exprs.length:=by omega
      obtain ⟨x,hx⟩:∃x,m.exprs[k]? =some x:=⟨_,List.getElem?_eq_getElem hlt⟩;have HKr:=Lib.hid (HK.out.below HE.out.bel);obtain ⟨g,off,hoe,hg,hxa⟩:=HKr.out.md.exprs.get hx;have HGO:=Lib.hid (HG.out);have hd:=mk_drop hx;have HGX:Hid ((if exprB m x=true then (if (takeAll k t (partsL x)).2=true then exprsGo m (m.exprs.drop (k+1)) (k+1) (takeAll k t (partsL x)).1 else ((k:Int),false)) else ((k:Int),false))= (r1,r2)):=Lib.hid (by
       have h0:=HG.out;rw [hd] at h0;exact h0)
      have hne:w.heap.size < wr.heap.size:=lt_of_block HE.out.cm;have a4:∀o,(wr.alloc o).cell? ⟨w.heap.size,6,none⟩=some (.slice (some ⟨g,off,none⟩) m.exprs.length h.ec):=fun o=>Lib.cell?_alloc_some _ ((cell_of_row _ _ _ _ _ _ HE.out.cm).trans (by unfold mCells;rw [hoe];rfl))
      have HXA:Hid (exprAt B wr g (off+k*12) x∧g < B):=Lib.hid ⟨hxa,hg⟩;clear hd hx hoe hxa hg HG HGO;go_wp2_with fail;clear a4;have HE1:=Lib.hid (HE.out.below (ball (Obj.cells #[.int .i64 k] 3)));have HB1:=Lib.hid (Bx.new wr #[.int .i64 k] 3);have HX1:Hid (exprAt B (wr.alloc (Obj.cells #[.int .i64 k] 3)) g (off+k*12) x):=Lib.hid (HXA.out.1.below ((ball _).mono (by have:=HB.out;omega)) HXA.out.2);have HK1:=Lib.hid (HKr.out.alloc (Obj.cells #[.int .i64 k] 3));generalize wr.alloc (Obj.cells #[.int .i64 k] 3)=W1 at HE1 HB1 HX1 HK1 ⊢;refine (expressionC W1 HK1.out HX1.out HXA.out.2).mono ?_;rintro e W2 ⟨rfl,hb2⟩;have HE2:=Lib.hid (HE1.out.below hb2);have HB2:=Lib.hid (HB1.out.below hb2);have HX2:Hid (exprAt B W2 g (off+k*12) x):=Lib.hid (HX1.out.below (hb2.mono (by have:=HK1.out.le;have:=HK1.out.lt;omega)) HXA.out.2);clear hb2 HE1 HX1 HK1 HKr;obtain ⟨b1,hb1⟩:∃b,exprB m x=b:=⟨_,rfl⟩;rw [hb1] at HGX ⊢;clear hb1;cases b1
      · have a1:W2.cell? ⟨wr.heap.size,0,none⟩=some (.int .i64 k):=HB2.out.cell rfl;have HR:Hid ((k:Int)=r1∧false=r2):=Lib.hid (by have h0:=HGX.out;rw [if_neg (by decide)] at h0;injection h0 with h1 h2;exact ⟨h1,h2⟩);go_wp2_with fail;go_ret2;exact ⟨retIB HR.out.1 HR.out.2,HE2.out.bel⟩
      · have HG1:Hid ((if (takeAll k t (partsL x)).2=true then exprsGo m (m.exprs.drop (k+1)) (k+1) (takeAll k t (partsL x)).1 else ((k:Int),false))= (r1,r2)):=Lib.hid (by have h0:=HGX.out;rw [if_pos rfl] at h0;exact h0);clear HGX;go_wp2_with fail;have HT:Hid (TK w h m w.heap.size wr.heap.size bt W2.heap.size T k m.exprs.length (t,true) (W2.alloc (Obj.cells #[.bool true] 4))):=Lib.hid (by
         have hbb:=ball (w:=W2) (Obj.cells #[.bool true] 4);refine ⟨HE2.out.below hbb,(hbb.block _ (lt_of_block HB2.out.box)).trans HB2.out.box,heap_alloc_new _ _, ?_,HE2.out.bel.size⟩;have:=(HE2.out.row.lt T rfl).2;omega)
        have HX3:Hid (exprAt B (W2.alloc (Obj.cells #[.bool true] 4)) g (off+k*12) x):=Lib.hid (HX2.out.below ((ball _).mono (by have:=HE2.out.bel.size;have:=HB.out;omega)) HXA.out.2);generalize W2.alloc (Obj.cells #[.bool true] 4)=W3 at HT HX3 ⊢;generalize W2.heap.size=bo at HT ⊢;refine (partsC (doer1 w h m w.heap.size wr.heap.size bt bo T k m.exprs.length B (by omega) l2 HB.out) _ (t,true) W3 (by have:=HT.out.ek.bel.size;have:=HB.out;omega) HX3.out HXA.out.2 HT.out (fun _ _ _ _=>trivial)).mono ?_;rintro e W4 ⟨rfl,ht4,-⟩;have HT4:Hid (TK w h m w.heap.size wr.heap.size bt bo T k m.exprs.length (takeAll k t (partsL x)) W4):=Lib.hid ht4;clear ht4 HT HX3 HX2 HE2 HB2;obtain ⟨⟨t5,u5⟩,h5⟩:∃s,takeAll k t (partsL x)=s:=⟨_,rfl⟩;rw [h5] at HT4 HG1;have a1:W4.cell? ⟨bo,0,none⟩=some (.bool u5):=(cell_of_row _ _ _ _ _ _ HT4.out.co).trans rfl;have a2:W4.cell? ⟨wr.heap.size,0,none⟩=some (.int .i64 k):=(cell_of_row _ _ _ _ _ _ HT4.out.ci).trans rfl;clear h5;cases u5
        · have HR:Hid ((k:Int)=r1∧false=r2):=Lib.hid (by have h0:=HG1.out;rw [if_neg (by simp)] at h0;injection h0 with h1 h2;exact ⟨h1,h2⟩);go_wp2_with fail;go_ret2;exact ⟨retIB HR.out.1 HR.out.2,HT4.out.ek.bel⟩
        · have HN:Hid (exprsGo m (m.exprs.drop (k+1)) (k+1) t5= (r1,r2)):=Lib.hid (by have h0:=HG1.out;rw [if_pos rfl] at h0;exact h0);have HE5:=Lib.hid HT4.out.ek;go_wp2_with fail;go_roundw;case rel=>exact ⟨k+1,t5,by go_num,by omega,HN,HE5⟩
          case measure=>simp [intOf];omega
    · have hlti:¬ (k:Int) < m.exprs.length:=by omega
      have HR:Hid ((0:Int)=r1∧true=r2):=Lib.hid (by
       have h0:=HG.out;rw [List.drop_eq_nil_of_le (by omega)] at h0;unfold exprsGo at h0;injection h0 with h1 h2
       exact ⟨h1,h2⟩)
      go_wp2_with fail;go_ret2;exact ⟨retIB HR.out.1 HR.out.2,HE.out.bel⟩
end Go.Proofs.YthfldokfnjpkmaaGreatDoor
namespace Go.Proofs.YthfldokfnjpkmaaGreatDoor
open Go.ChangeShapes Go.WideShapes Go.ChangeAt Go.RowKit
def leftV (l:List Int):List Value:=l.map (.int .i64)
def Oth (W W':World):Prop:=∀ (b:Nat) (cs:Array Value) (T:TypeId) (fr:Nat × Nat),T≠3→T≠234→W.heap[b]? =some (.cells cs T fr)→W'.heap[b]? =some (.cells cs T fr)
structure Gn (B:Nat) (W W':World):Prop where
 bel:Below B W W'
 oth:Oth W W'
theorem Gn.refl (B:Nat) (W:World):Gn B W W:=⟨Below.refl _ _,fun _ _ _ _ _ _ h=>h⟩
theorem Gn.trans {B:Nat} {a b c:World} (h:Gn B a b) (h2:Gn B b c):Gn B a c:=⟨h.bel.trans h2.bel,fun x cs T fr h1 h3 h4=>h2.oth x cs T fr h1 h3 (h.oth x cs T fr h1 h3 h4)⟩
theorem Gn.of {B:Nat} {a b:World} (h:Below a.heap.size a b) (hB:B≤a.heap.size):Gn B a b:=⟨h.mono hB,fun x cs T fr _ _ h3=>(h.block _ (lt_of_block h3)).trans h3⟩
theorem Gn.size {B:Nat} {a b:World} (h:Gn B a b):a.heap.size≤b.heap.size:=h.bel.size
structure UK (B p sb:Nat) (h:MH) (m:ModelD) (seen left:List Int) (lv:Value) (W:World):Prop where
 le:B≤p
 md:MD B W h m
 kp:W.heap[p]? =some (.cells (kCells h m (.slice (some ⟨sb,0,none⟩) m.exprs.length m.exprs.length) lv) 234 (0,0))
 row:W.ownsRow B 3 1 lv left.length (leftV left)
 ne:lv.ownBlock≠some sb
 rs:W.ownsRow B 3 1 (.slice (some ⟨sb,0,none⟩) m.exprs.length m.exprs.length) m.exprs.length (leftV seen)
def UJ (B p sb:Nat) (h:MH) (m:ModelD) (seen left:List Int) (W:World):Prop:=∃lv,UK B p sb h m seen left lv W
section
variable {B p sb:Nat} {h:MH} {m:ModelD} {seen left:List Int} {lv:Value} {W:World}
theorem UK.lt (k:UK B p sb h m seen left lv W):p < W.heap.size:=lt_of_block k.kp
theorem UK.leW (k:UK B p sb h m seen left lv W):B≤W.heap.size:=by have:=k.lt;have:=k.le;omega
theorem UK.ck (k:UK B p sb h m seen left lv W):Ck B W p h m:=by
 have hp:=k.kp;exact ⟨(cell_of_row _ _ _ _ _ _ hp).trans rfl,(cell_of_row _ _ _ _ _ _ hp).trans rfl,(cell_of_row _ _ _ _ _ _ hp).trans rfl,(cell_of_row _ _ _ _ _ _ hp).trans rfl,(cell_of_row _ _ _ _ _ _ hp).trans rfl,(cell_of_row _ _ _ _ _ _ hp).trans rfl,(cell_of_row _ _ _ _ _ _ hp).trans rfl,k.leW,k.lt,k.md⟩
theorem UK.c7 (k:UK B p sb h m seen left lv W):W.cell? ⟨p,7,none⟩=some (.slice (some ⟨sb,0,none⟩) m.exprs.length m.exprs.length):=(cell_of_row _ _ _ _ _ _ k.kp).trans rfl
theorem UK.c8 (k:UK B p sb h m seen left lv W):W.cell? ⟨p,8,none⟩=some lv:=(cell_of_row _ _ _ _ _ _ k.kp).trans rfl
theorem UK.f8 (k:UK B p sb h m seen left lv W):W.frozen? ⟨p,8,none⟩=false:=frozen_of_row _ _ _ _ _ k.kp
theorem UK.len (k:UK B p sb h m seen left lv W):seen.length=m.exprs.length:=by have:=k.rs.1;simpa [leftV] using this
theorem UK.sbp (k:UK B p sb h m seen left lv W):sb≠p:=fun e=>owns_neObj k.rs k.kp (by decide) (by rw [←e];rfl)
theorem UK.lvp (k:UK B p sb h m seen left lv W):lv.ownBlock≠some p:=owns_neObj k.row k.kp (by decide)
theorem UK.below (k:UK B p sb h m seen left lv W) {W':World} (hb:Below W.heap.size W W'):UK B p sb h m seen left lv W':=
 ⟨k.le,k.md.below (hb.mono k.leW),(hb.block _ k.lt).trans k.kp,owns_below k.row hb,k.ne,owns_below k.rs hb⟩
theorem UK.put (k:UK B p sb h m seen left lv W) {W2:World} {v lv2:Value} {left2:List Int} (hg:W.grownBy W2 v.ownBlock) (hv:v.ownBlock=none∨v.ownBlock=lv.ownBlock) (own2:W2.ownsRow B 3 1 lv2 left2.length (leftV left2)) (hne2:lv2.ownBlock≠some sb):
 UK B p sb h m seen left2 lv2 (W2.setCell ⟨p,8,none⟩ lv2)∧Gn B W (W2.setCell ⟨p,8,none⟩ lv2):=by
 have vb:∀b,b < B→some b≠v.ownBlock:=by
  intro b hb e;rcases hv with h0 | h0
  · rw [h0] at e;cases e
  · rw [h0] at e;have:=(k.row.lt b e.symm).1;omega
 have vp:some p≠v.ownBlock:=by
  rcases hv with h0 | h0
  · rw [h0];simp
  · rw [h0];exact k.lvp.symm
 have vs:some sb≠v.ownBlock:=by
  rcases hv with h0 | h0
  · rw [h0];simp
  · rw [h0];exact k.ne.symm
 have hp2:W2.heap[p]? =some (.cells (kCells h m (.slice (some ⟨sb,0,none⟩) m.exprs.length m.exprs.length) lv) 234 (0,0)):=(hg.block p k.lt vp).trans k.kp;have hb2:Below B W W2:=⟨hg.os,hg.tape,hg.output,hg.size,fun b hb=>hg.block b (by have:=k.leW;omega) (vb b hb)⟩;have hb3:Below B W (W2.setCell ⟨p,8,none⟩ lv2):=hb2.setCell k.le _;have h2p:lv2.ownBlock≠some p:=owns_neObj own2 hp2 (by decide);refine ⟨⟨k.le,k.md.below hb3, ?_,owns_set own2 _ _ h2p,hne2,owns_set (k.rs.kept hg (.inr vs)) _ _ (by intro e;injection e with e;exact k.sbp e)⟩,hb3,fun b cs T fr h1 h2 h3=> ?_⟩
 · rw [heap_setCell_same _ _ _ _ _ _ hp2];rfl
 · have hbp:b≠p:=by
    rintro rfl;rw [k.kp] at h3;injection h3 with h3
    injection h3 with _ h3
    exact h2 h3.symm
   have hbv:some b≠v.ownBlock:=by
    intro e;rcases hv with h0 | h0
    · rw [h0] at e;cases e
    · rw [h0] at e;exact owns_neObj k.row h3 (fun e=>h1 e.symm) e.symm
   rw [heap_setCell_other _ _ _ _ (by exact hbp)];exact (hg.block b (lt_of_block h3) hbv).trans h3
theorem UK.see (k:UK B p sb h m seen left lv W) (q:Nat) (x:Int):UK B p sb h m (seen.set q x) left lv (W.setCell ⟨sb,q,none⟩ (.int .i64 x))∧Gn B W (W.setCell ⟨sb,q,none⟩ (.int .i64 x)):=by
 have hb3:Below B W (W.setCell ⟨sb,q,none⟩ (.int .i64 x)):=(Below.refl _ _).setCell (k.rs.lt sb rfl).1 _;refine ⟨⟨k.le,k.md.below hb3, ?_,owns_set k.row _ _ k.ne,k.ne, ?_⟩,hb3,fun b cs T fr h1 h2 h3=> ?_⟩
 · rw [heap_setCell_other _ _ _ _ (by exact fun e=>k.sbp e.symm)];exact k.kp
 · have:=(k.rs.stored q (.int .i64 x)).1;unfold leftV at this ⊢;rw [List.map_set];exact this
 · rw [heap_setCell_other _ _ _ _ (by exact fun e=>owns_neObj k.rs h3 (fun e=>h1 e.symm) (by rw [e];rfl))];exact h3
theorem UK.seenAt (k:UK B p sb h m seen left lv W) {q:Nat} {v:Int} (hv:seen[q]? =some v):W.cell? ⟨sb,q,none⟩=some (.int .i64 v):=by
 have hl:=k.len;have hq:=(List.getElem?_eq_some_iff.1 hv).1;refine (World.ownsRow.cellAt k.rs q (by omega)).trans ?_;unfold leftV;rw [List.getElem?_map,hv];rfl
theorem UK.seenF (k:UK B p sb h m seen left lv W) (q:Nat):W.frozen? ⟨sb,q,none⟩=false:=k.rs.frozenAt q
theorem UK.form (k:UK B p sb h m seen left lv W): (lv= .slice none 0 0∧left= [])∨∃g cap,lv= .slice (some ⟨g,0,none⟩) left.length cap∧left.length≤cap:=by
 rcases k.row.2 with ⟨h0,h1⟩ | ⟨g,cap,cur,h0,_,_,h1,_⟩
 · exact .inl ⟨h0,List.eq_nil_of_length_eq_zero h1⟩
 · exact .inr ⟨g,cap,h0,h1⟩
theorem own_none {W:World} {B n cap g:Nat} {xs:List Value} (h:W.ownsRow B 3 1 (.slice (some ⟨g,0,none⟩) n cap) n xs):W.ownsRow B 3 1 (.slice (some ⟨g,0,none⟩) 0 cap) 0 []:=by
 refine ⟨rfl, ?_⟩;rcases h.2 with ⟨h0,_⟩ | ⟨g',cap',cur,hv,h1,h2,h3,h4,h5,h6⟩
 · cases h0
 · injection hv with e1 e2 e3
   injection e1 with e1
   injection e1 with e1
   subst e1 e3;exact .inr ⟨g,cap,cur,rfl,h1,h2,Nat.zero_le _,h4,h5,by simp⟩
theorem own_pop {W:World} {B cap g:Nat} {l:List Int} {q:Int} (h:W.ownsRow B 3 1 (.slice (some ⟨g,0,none⟩) (l ++ [q]).length cap) (l ++ [q]).length (leftV (l ++ [q]))):W.ownsRow B 3 1 (.slice (some ⟨g,0,none⟩) l.length cap) l.length (leftV l):=by
 refine ⟨by simp [leftV], ?_⟩;rcases h.2 with ⟨h0,_⟩ | ⟨g',cap',cur,hv,h1,h2,h3,h4,h5,h6⟩
 · cases h0
 · injection hv with e1 e2 e3
   injection e1 with e1
   injection e1 with e1
   subst e1 e3;refine .inr ⟨g,cap,cur,rfl,h1,h2,by simp at h3;omega,h4,h5, ?_⟩;have h7: (cur.toList.take ((l ++ [q]).length*1)).take l.length= (leftV (l ++ [q])).take l.length:=by rw [h6]
   rw [List.take_take,Nat.min_eq_left (by simp)] at h7;rw [Nat.mul_one,h7];unfold leftV;rw [←List.map_take];simp
end
end Go.Proofs.YthfldokfnjpkmaaGreatDoor
namespace Go.Proofs.YthfldokfnjpkmaaGreatDoor
open Go.ChangeShapes Go.WideShapes Go.ChangeAt Go.RowKit
attribute [local go_sem ↓] Go.wp_at_zero Go.wp_at_succ
theorem news_one {W:World} {B:Nat} {x:Int} {fr:Nat × Nat} (hb:W.heap[B]? =some (.cells #[.int .i64 x] 3 fr)):∀j u,(leftV [x])[j]? =some u→W.cell? ((⟨B,0,none⟩:Addr).add j)=some u:=fun j u hu=>World.news_of_block hb j u hu
theorem one_left (x:Int):∀u ∈ leftV [x],u.oneCell'=true:=by
 intro u hu;simp [leftV] at hu;subst hu;rfl
def Pushed (B p sb:Nat) (h:MH) (m:ModelD) (seen left:List Int) (W W':World):Prop:=UJ B p sb h m seen left W'∧Gn B W W'
theorem push_put {B p sb g:Nat} {h:MH} {m:ModelD} {seen left left0:List Int} {lv v lv2:Value} {W W1 W2:World} {q:Int} (k:UK B p sb h m seen left lv W) (hb:Below W.heap.size W W1) (hv:v.ownBlock=none∨v.ownBlock=lv.ownBlock)
 (hg:W1.grownBy W2 v.ownBlock) (own2:W2.ownsRow B 3 1 lv2 (left0 ++ [q]).length (leftV (left0 ++ [q]))) (h2:lv2.ownBlock=some g) (hat:v.ownBlock=some g∨g=W1.heap.size):Pushed B p sb h m seen (left0 ++ [q]) W (W2.setCell ⟨p,8,none⟩ lv2):=by
 have k1:=k.below hb;have hsb:sb < W1.heap.size:=(k1.rs.lt sb rfl).2;have hne2:lv2.ownBlock≠some sb:=by
  rw [h2];intro e;injection e with e
  rcases hat with h3 | h3
  · rcases hv with h4 | h4
    · rw [h4] at h3;cases h3
    · rw [h4] at h3;exact k.ne (by rw [h3,e])
  · omega
 have:=k1.put hg hv own2 hne2;exact ⟨⟨lv2,this.1⟩,(Gn.of hb k.leW).trans this.2⟩
set_option maxHeartbeats 4000000 in
set_option maxRecDepth 100000 in
theorem uses1C {B p sb bx:Nat} {h:MH} {m:ModelD} {seen left:List Int} (q:Int) (W:World) (hj:UJ B p sb h m seen left W) (hx:W.heap[bx]? =some (.cells #[.pointer (some ⟨p,0,none⟩)] 253 (0,0))) (hn:left.length≤100000):
 Calls Tryz.prog 200 #[.int .i64 q,.pointer (some ⟨bx,0,none⟩)] W fun e W'=>e= .returned (.tuple #[])∧Pushed B p sb h m seen (left ++ [q]) W W':=by
 obtain ⟨lv,k⟩:=hj;obtain ⟨i0,hi,hz0,hz1,hz2⟩:=info_parts info_int;have HI:=Lib.hid (And.intro hi (And.intro hz0 (And.intro hz1 hz2)));have HK:=Lib.hid k;have l1:W.cell? ⟨bx,0,none⟩=some (.pointer (some ⟨p,0,none⟩)):=(cell_of_row _ _ _ _ _ _ hx).trans rfl;have l2:=k.c8;have f2:=k.f8;have HA:Hid (∀w1,Below W.heap.size W w1→w1.ownsRow B 3 1 lv left.length (leftV left)∧B≤w1.heap.size):=Lib.hid fun w1 hb=>⟨owns_below HK.out.row hb,Nat.le_trans HK.out.leW hb.size⟩
 have hxlt:bx < W.heap.size:=lt_of_block hx;have hplt:p < W.heap.size:=k.lt;have HX:=Lib.hid hx;clear hx;clear hi hz0 hz1 hz2 k;go_enter Tryz.func200,Tryz.ntmps200;go_wp2_with fail
 go_region_law
  (refine step_append_lies _ rfl (.tmp 7) (.tmp 9) 25 rfl B 3 i0 (.int .i64 0) 1 8 Tryz.underlying25 HI.out.1 HI.out.2.1 HI.out.2.2.1 HI.out.2.2.2 rfl (by decide) lv left.length (leftV left) (by simp [Act.eval,Act.put]) (HA.out _ ((ball _).drew)).1 ⟨W.heap.size,0,none⟩ 1 1 (leftV [q]) (by simp [Act.eval,Act.put]) rfl (news_one (heap_alloc_new _ _)) (one_left q) (by decide) (by unfold maxLen;omega) (by omega) (HA.out _ ((ball _).drew)).2 _ rfl ?_;intro g cap w2 hown hgrow hat hlt;have HP2:=Lib.hid (push_put (left0:=left) (q:=q) HK.out ((ball _).drew) (.inr rfl) hgrow (by rw [List.length_append];unfold leftV;rw [List.map_append];exact hown) rfl hat);have HB:Hid (w2.heap[bx]? =some (.cells #[.pointer (some ⟨p,0,none⟩)] 253 (0,0))):=Lib.hid ((hgrow.block bx (Nat.lt_of_lt_of_le hxlt (ball _).drew.size) (owns_neObj HK.out.row HX.out (by decide)).symm).trans (((ball _).drew.block _ hxlt).trans HX.out));have HC:Hid (∃cs,w2.heap[p]? =some (.cells cs 234 (0,0))∧cs[8]? =some lv):=Lib.hid ⟨_,(hgrow.block p (Nat.lt_of_lt_of_le hplt (ball _).drew.size) HK.out.lvp.symm).trans (((ball _).drew.block _ hplt).trans HK.out.kp),rfl⟩;obtain ⟨cs,hc1,hc2⟩:=HC.out;have k1:w2.cell? ⟨bx,0,none⟩=some (.pointer (some ⟨p,0,none⟩)):=(cell_of_row _ _ _ _ _ _ HB.out).trans rfl;have k2:w2.cell? ⟨p,8,none⟩=some lv:=(cell_of_row _ _ _ _ _ _ hc1).trans hc2;have k3:w2.frozen? ⟨p,8,none⟩=false:=frozen_of_row _ _ _ _ _ hc1;clear hown hgrow hat hc1 hc2;simp only [Act.put,List.setIfInBounds_toArray,List.set_cons_zero,List.set_cons_succ])
 all_goals (
  clear l1 l2 k1 k2 k3;go_wp2_with fail
  first | go_end0 | skip
  exact ⟨rfl,HP2.out⟩)
theorem run_uses1 (args:Array Value) (w:World): (callFunc 200 args).run Tryz.prog w= .ok (.enter 200 args) w:=by
 have h1: (Tryz.f200.name == "runtime.NumGoroutine")=false:=by kernel_rfl
 have h2:Tryz.f200.body.isNone=false:=by kernel_rfl
 simp only [beq_eq_false_iff_ne,ne_eq] at h1;have h3:¬Tryz.f200.body=none:=by
  intro e;rw [e] at h2;cases h2
 simp [callFunc,go_sem,Tryz.func200,h1,h3]
structure PK (B p sb bx:Nat) (h:MH) (m:ModelD) (seen:List Int) (w0:World) (left:List Int) (W:World):Prop where
 uj:UJ B p sb h m seen left W
 box:W.heap[bx]? =some (.cells #[.pointer (some ⟨p,0,none⟩)] 253 (0,0))
 gn:Gn B w0 W
theorem doer2 (B p sb bx:Nat) (h:MH) (m:ModelD) (seen:List Int) (w0:World):Doer B 200 #[.pointer (some ⟨bx,0,none⟩)] (fun l q=>l ++ [q]) (PK B p sb bx h m seen w0) (fun l _=>l.length≤100000) where
 call s W q k hs:=(uses1C q W k.uj k.box hs).mono fun e W' ⟨h1,h2,h3⟩=>⟨h1,⟨h2,h3.oth _ _ _ _ (by decide) (by decide) k.box,k.gn.trans h3⟩,h3.bel,h3.size,fun b cs fr hb=>h3.oth _ _ _ _ (by decide) (by decide) hb⟩
 below s W W' k hb:=by
  obtain ⟨⟨lv,k1⟩,k2,k3⟩:=k;exact ⟨⟨lv,k1.below hb⟩,(hb.block _ (lt_of_block k2)).trans k2,k3.trans (Gn.of hb k1.leW)⟩
 run:=run_uses1
theorem fold_push (l s:List Int):l.foldl (fun l q=>l ++ [q]) s=s ++ l:=by
 induction l generalizing s with
 | nil=>simp
 | cons x r ih=>rw [List.foldl_cons,ih,List.append_assoc];rfl
end Go.Proofs.YthfldokfnjpkmaaGreatDoor
namespace Go.Proofs.YthfldokfnjpkmaaGreatDoor
open Go.ChangeShapes Go.WideShapes Go.ChangeAt Go.RowKit
theorem zip_get {α β:Type} {l:List α} {r:List β} {k:Nat} (h1:k < l.length) (h2:k < r.length):∃h:k < (l.zip r).length,(l.zip r)[k]= (l[k],r[k]):=⟨by rw [List.length_zip];omega,List.getElem_zip⟩
set_option maxHeartbeats 1000000 in
set_option maxRecDepth 100000 in
theorem globalsC {B p:Nat} {h:MH} {m:ModelD} (w:World) (hk:Ck B w p h m):
 Calls Tryz.prog 144 #[.pointer (some ⟨p,0,none⟩)] w fun e w'=>e= .returned (.tuple #[.int .i64 (globalsL m).1,.bool (globalsL m).2])∧Below w.heap.size w w':=by
 obtain ⟨go,gc,io,ic,so,sc,co,cc,po,pc,eo,ec⟩:=h;have HK:=Lib.hid hk;have c0:w.cell? ⟨p,0,none⟩=some (.slice go m.globals.length gc):=hk.c0;have c1:w.cell? ⟨p,1,none⟩=some (.slice io m.init.length ic):=hk.c1;have l1:=hk.md.globals.1;have l2:=hk.md.init.1;clear hk;by_cases hbad:128 < m.globals.length
 · have HV:Hid (globalsL m= (-1,false)):=Lib.hid (if_pos (.inl hbad));have hd1:decide (128 < (m.globals.length:Int))=true:=by simp;omega
   go_enter Tryz.func144,Tryz.ntmps144;go_wp2_with fail;go_quiet (fail);go_wp2_with fail;go_ret2;exact ⟨retIB (by rw [HV.out]) (by rw [HV.out]),bdrew (Below.refl _ _) _⟩
 · have hd1:decide (128 < (m.globals.length:Int))=false:=by simp;omega
   by_cases hne:m.init.length=m.globals.length
   · have HV:Hid (globalsL m=idxB (bad fitZ (m.globals.zip m.init))):=Lib.hid (if_neg (by omega));have hn1: ((m.init.length:Int) != (m.globals.length:Int))=false:=by simp;omega
     have HNE:=Lib.hid hne;have i1: (m.init.length:Int)≤m.globals.length:=by omega
     have i2: (m.globals.length:Int)≤m.init.length:=by omega
     clear hbad hne;go_enter Tryz.func144,Tryz.ntmps144;go_wp2_with fail;go_quiet (fail);have HKD:=Lib.hid (HK.out.below (bdrew (Below.refl _ w) nq));have HBD:Hid (Below w.heap.size w (w.drewN nq)):=Lib.hid (bdrew (Below.refl _ w) nq);have d0: (w.drewN nq).cell? ⟨p,0,none⟩=some (.slice go m.globals.length gc):=HKD.out.c0;go_wp2_with fail;clear c0 c1 d0 hd1 hn1
     go_loopw [34] (fun iv W=>∃k:Nat,iv= .int .i64 k∧k≤m.globals.length∧Hid (∀j (hj:j < (m.globals.zip m.init).length),j < k→fitZ (m.globals.zip m.init)[j]=true)∧Hid (Below w.heap.size w W)) (fun iv _=>m.globals.length - (intOf iv).toNat)
     case atStart=>exact ⟨0,rfl,by omega,Lib.hid fun j _ h=>by omega,HBD⟩
     case round=>
      clear HKD HBD;obtain ⟨k,rfl,hk,HJ,HBW⟩:=hrel;have hk0: (0:Int)≤k:=by omega
      by_cases hlt:k < m.globals.length
      · have hlti: (k:Int) < m.globals.length:=by omega
        have hlt2:k < m.init.length:=by have:=HNE.out;omega
        have hlti2: (k:Int) < m.init.length:=by omega
        have HKr:=Lib.hid (HK.out.below HBW.out);obtain ⟨g,off,hog,hgB,t0,t1⟩:=HKr.out.md.globals.cell hlt;obtain ⟨g2,off2,hog2,hgB2,e2⟩:=HKr.out.md.init.cell hlt2;simp only at hog hog2;subst hog hog2;obtain ⟨hz,hzip⟩:=zip_get hlt hlt2;obtain ⟨⟨b,sg⟩,hbs⟩:∃t,m.globals[k]=t:=⟨_,rfl⟩;obtain ⟨v,hv⟩:∃v,m.init[k]=v:=⟨_,rfl⟩;rw [hbs] at t0 t1 hzip;rw [hv] at hzip;have HBAD:Hid (fitB b sg v=false→globalsL m= ((k:Int),false)):=Lib.hid fun h=>by
         rw [HV.out,bad_some hz (by rw [hzip];exact h) (fun j hj hjk=>HJ.out j hj hjk)];rfl
        have HGO:Hid (fitB b sg v=true→∀j (hj:j < (m.globals.zip m.init).length),j < k+1→fitZ (m.globals.zip m.init)[j]=true):=Lib.hid fun h j hj hjk=>by
         by_cases e:j=k
         · subst e;rw [hzip];exact h
         · exact HJ.out j hj (by omega)
        have e3:wr.cell? ⟨g2,off2+k,none⟩=some (.int .i64 v):=by
         have:=e2;unfold intAt at this;rw [Nat.mul_one,hv] at this;exact this
        have HC:Hid (∀o,(wr.alloc o).cell? ⟨g2,off2+k,none⟩=some (.int .i64 v)∧ (wr.alloc o).cell? ⟨p,1,none⟩=some (.slice (some ⟨g2,off2,none⟩) m.init.length ic)):=Lib.hid fun o=>⟨Lib.cell?_alloc_some _ e3,Lib.cell?_alloc_some _ HKr.out.c1⟩
        simp only at t0 t1;have hc1:=(HC.out (Obj.cells #[.int .i64 b,.bool sg] 138)).1;have hc2:=(HC.out (Obj.cells #[.int .i64 b,.bool sg] 138)).2;have HX:=Lib.hid (Bx.new wr #[.int .i64 b,.bool sg] 138);clear hbs hv e2 hz hzip;go_wp2_with fail;generalize wr.alloc (Obj.cells #[.int .i64 b,.bool sg] 138)=W at hc1 hc2 HX ⊢;have x1:W.cell? ⟨wr.heap.size,0,none⟩=some (.int .i64 b):=HX.out.cell rfl;have x2:W.cell? ⟨wr.heap.size,1,none⟩=some (.bool sg):=HX.out.cell rfl;go_still_tail 9,(by kernel_rfl);change wpList _ _ _ _ _ W.drew;have HWD:Hid (Below w.heap.size w W.drew):=Lib.hid (HBW.out.trans ((HX.out.bel.drew).mono HBW.out.size));generalize W.drew=W2 at HWD ⊢;clear x1 x2 hc1 hc2 t0 t1 e3;go_wp2_with fail;refine (fitsC b sg v W2).mono ?_;rintro e W3 ⟨rfl,hb3⟩;have HW3:=Lib.hid (HWD.out.trans (hb3.mono HWD.out.size));clear hb3;obtain ⟨u,hu⟩:∃u,fitB b sg v=u:=⟨_,rfl⟩;rw [hu];have HU:=Lib.hid hu;clear hu;cases u
        · have HZ:=Lib.hid (HBAD.out HU.out);go_wp2_with fail;go_ret2;exact ⟨retIB (by rw [HZ.out]) (by rw [HZ.out]),HW3.out⟩
        · have HZ:=Lib.hid (HGO.out HU.out);go_wp2_with fail;go_roundw;case rel=>exact ⟨k+1,by go_num,by omega,HZ,HW3⟩
          case measure=>simp [intOf];omega
      · have hlti:¬ (k:Int) < m.globals.length:=by omega
        have HZ:Hid (globalsL m= (0,true)):=Lib.hid (by rw [HV.out,bad_none fun j hj=>HJ.out j hj (by rw [List.length_zip] at hj;omega)];rfl);go_wp2_with fail;go_ret2;exact ⟨retIB (by rw [HZ.out]) (by rw [HZ.out]),HBW.out⟩
   · have HV:Hid (globalsL m= (-1,false)):=Lib.hid (if_pos (.inr hne));have hn1: ((m.init.length:Int) != (m.globals.length:Int))=true:=by rw [bne_iff_ne];omega
     clear hbad hne;go_enter Tryz.func144,Tryz.ntmps144;go_wp2_with fail;go_quiet (fail);go_wp2_with fail;go_ret2;exact ⟨retIB (by rw [HV.out]) (by rw [HV.out]),bdrew (Below.refl _ _) _⟩
end Go.Proofs.YthfldokfnjpkmaaGreatDoor
