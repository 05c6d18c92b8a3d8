/- A state as text, and what is read of a text, in plain words: the document's reader and the program's read the same. -/
import Derived.Test.YtnoibjahliafpaaDoorM02
set_option linter.unusedVariables false
set_option linter.unusedSimpArgs false
namespace Go.Proofs.YtnoibjahliafpaaDoor
open Go.ChangeShapes Go.WideShapes Go.ChangeAt Go.RowKit
def rowT:List Int→List UInt8
 | []=>[]
 | v :: r=>Lib.itoa v ++ 44 :: rowT r
theorem rowT_append:∀a b:List Int,rowT (a ++ b)=rowT a ++ rowT b
 | [],b=>rfl
 | v :: r,b=>by simp [rowT,rowT_append r b]
theorem rowT_one (v:Int):rowT [v]=Lib.itoa v ++ [44]:=rfl
theorem rowT_len:∀ {l:List Int},(∀v ∈ l,inI v)→ (rowT l).length≤21*l.length
 | [],_=>by simp [rowT]
 | v :: r,h=>by
   have h1:=itoa20 (h v (by simp));have h2:=rowT_len (l:=r) fun x hx=>h x (by simp [hx])
   simp only [rowT,List.length_append,List.length_cons];omega
def chanN (c:ChanD):List Int:=c.shape :: (c.queue.length:Int) :: c.queue.flatten
def procN (p:ProcessD):List Int:=p.type :: p.loc :: p.frame
def chansN (l:List ChanD):List Int:=(l.map chanN).flatten
def procsN (l:List ProcessD):List Int:=(l.map procN).flatten
def numsOf (s:StateD):List Int:=s.globals ++ ((s.chans.length:Int) :: (chansN s.chans ++ ((s.procs.length:Int) :: (procsN s.procs ++ [s.last,s.alone,s.claim]))))
def textS (s:StateD):List UInt8:=rowT (numsOf s)
def readP:List UInt8→List UInt8→List Int→Option (List Int × Bool)
 | cur,[],l=>some (l,cur.isEmpty)
 | cur,c :: r,l=>if c=44 then (match Lib.parseIntB 64 cur with | .ok v=>readP [] r (l ++ [v]) | _=>none) else readP (cur ++ [c]) r l
def readQ:List UInt8→List UInt8→List Int→Option (List Int × Bool)
 | cur,[],l=>some (l,cur.isEmpty)
 | cur,c :: r,l=>if c=44 then (match num cur with | some v=>readQ [] r (l ++ [v]) | none=>none) else readQ (cur ++ [c]) r l
theorem readP_skip:∀ (a cur r:List UInt8) (l:List Int),(∀x ∈ a,x≠44)→readP cur (a ++ r) l=readP (cur ++ a) r l
 | [],cur,r,l,_=>by simp
 | c :: a,cur,r,l,h=>by
   rw [List.cons_append,readP,if_neg (h c (by simp)),readP_skip a (cur ++ [c]) r l fun x hx=>h x (by simp [hx])];simp
theorem readQ_skip:∀ (a cur r:List UInt8) (l:List Int),(∀x ∈ a,x≠44)→readQ cur (a ++ r) l=readQ (cur ++ a) r l
 | [],cur,r,l,_=>by simp
 | c :: a,cur,r,l,h=>by
   rw [List.cons_append,readQ,if_neg (h c (by simp)),readQ_skip a (cur ++ [c]) r l fun x hx=>h x (by simp [hx])];simp
theorem itoa_no (v:Int):∀x ∈ Lib.itoa v,x≠44:=by
 intro x hx;unfold Lib.itoa at hx;split at hx
 · rcases List.mem_cons.1 hx with rfl | hx
   · decide
   · rintro rfl;have:=(dec_all _ _ hx).1;exact absurd this (by decide)
 · rintro rfl;have:=(dec_all _ _ hx).1;exact absurd this (by decide)
theorem readP_row:∀ (t l:List Int),(∀v ∈ t,inI v)→readP [] (rowT t) l=some (l ++ t,true)
 | [],l,_=>by simp [rowT,readP]
 | v :: t,l,h=>by
   rw [rowT,readP_skip _ _ _ _ (itoa_no v),List.nil_append,readP,if_pos rfl,parse_itoa v (h v (by simp))];simp only;rw [readP_row t _ fun x hx=>h x (by simp [hx])];simp
theorem readQ_row:∀ (t l:List Int),(∀v ∈ t,inI v)→readQ [] (rowT t) l=some (l ++ t,true)
 | [],l,_=>by simp [rowT,readQ]
 | v :: t,l,h=>by
   rw [rowT,readQ_skip _ _ _ _ (itoa_no v),List.nil_append,readQ,if_pos rfl,num_some.2 ⟨h v (by simp),rfl⟩];simp only;rw [readQ_row t _ fun x hx=>h x (by simp [hx])];simp
theorem readQ_sound:∀ (s cur:List UInt8) (l r:List Int),readQ cur s l=some (r,true)→∃t,r=l ++ t∧cur ++ s=rowT t
 | [],cur,l,r,h=>by
   simp only [readQ,Option.some.injEq,Prod.mk.injEq,List.isEmpty_iff] at h;exact ⟨[],by simp [h.1],by simp [h.2,rowT]⟩
 | c :: s,cur,l,r,h=>by
   rw [readQ] at h;split at h
   · rename_i hc
     split at h
     · rename_i v hv
       obtain ⟨t,h1,h2⟩:=readQ_sound s [] (l ++ [v]) r h;refine ⟨v :: t,by simp [h1], ?_⟩;rw [rowT,←h2,(num_some.1 hv).2,hc];simp
     · cases h
   · obtain ⟨t,h1,h2⟩:=readQ_sound s (cur ++ [c]) l r h;exact ⟨t,h1,by rw [←h2];simp⟩
theorem readP_len:∀ (s cur:List UInt8) (l r:List Int) (b:Bool),readP cur s l=some (r,b)→r.length≤l.length+s.length
 | [],cur,l,r,b,h=>by
   simp only [readP,Option.some.injEq,Prod.mk.injEq] at h;simp [h.1]
 | c :: s,cur,l,r,b,h=>by
   rw [readP] at h;split at h
   · split at h
     · have:=readP_len s _ _ r b h;simp at this ⊢;omega
     · cases h
   · have:=readP_len s _ _ r b h;simp at this ⊢;omega
structure RdS where
 left:List Int
 wrong:Bool
def nxF (r:RdS):Int × RdS:=match r.left with
 | []=>(0,⟨[],true⟩)
 | v :: t=>(v,⟨t,r.wrong⟩)
def beF (most:Int) (r:RdS):Int × RdS:=if (nxF r).1 < 0∨most≤ (nxF r).1 then (0,⟨(nxF r).2.left,true⟩) else nxF r
def liF:Nat→RdS→List Int × RdS
 | 0,r=>([],r)
 | n+1,r=>((liF n r).1 ++ [(nxF (liF n r).2).1],(nxF (liF n r).2).2)
def quF (f:Nat):Nat→RdS→List (List Int) × RdS
 | 0,r=>([],r)
 | n+1,r=>((quF f n r).1 ++ [(liF f (quF f n r).2).1],(liF f (quF f n r).2).2)
def fieldsN (m:ModelD) (t:Int):Nat:=(m.shapes[t.toNat]?.map (·.fields.length)).getD 0
def prioN (m:ModelD) (t:Int):Int:=(m.procs[t.toNat]?.map (·.prio)).getD 0
def chF (m:ModelD) (r:RdS):ChanD × RdS:=
 if (beF 17 (beF m.shapes.length r).2).2.wrong=true then (⟨(beF m.shapes.length r).1,[]⟩,(beF 17 (beF m.shapes.length r).2).2)
 else (⟨(beF m.shapes.length r).1,(quF (fieldsN m (beF m.shapes.length r).1) (beF 17 (beF m.shapes.length r).2).1.toNat (beF 17 (beF m.shapes.length r).2).2).1⟩,(quF (fieldsN m (beF m.shapes.length r).1) (beF 17 (beF m.shapes.length r).2).1.toNat (beF 17 (beF m.shapes.length r).2).2).2)
def prF (m:ModelD) (r:RdS):ProcessD × RdS:=
 (⟨(beF m.procs.length r).1,(beF 256 (beF m.procs.length r).2).1,prioN m (beF m.procs.length r).1,(liF (frameAt m (beF m.procs.length r).1) (beF 256 (beF m.procs.length r).2).2).1⟩,(liF (frameAt m (beF m.procs.length r).1) (beF 256 (beF m.procs.length r).2).2).2)
def manyF {α:Type} (g:RdS→α × RdS):Nat→List α→RdS→List α × RdS
 | 0,l,r=>(l,r)
 | n+1,l,r=>if r.wrong=true then (l,r) else manyF g n (l ++ [(g r).1]) (g r).2
def gsF (m:ModelD) (r:RdS):List Int × RdS:=liF m.globals.length r
def csF (m:ModelD) (r:RdS):List ChanD × RdS:=manyF (chF m) (beF 33 r).1.toNat [] (beF 33 r).2
def psF (m:ModelD) (r:RdS):List ProcessD × RdS:=manyF (prF m) (beF 17 r).1.toNat [] (beF 17 r).2
def enF (g:List Int) (c:List ChanD) (p:List ProcessD) (r:RdS):StateD × RdS:=(⟨g,c,p,(nxF r).1,(nxF (nxF r).2).1,(nxF (nxF (nxF r).2).2).1⟩,(nxF (nxF (nxF r).2).2).2)
def stF (m:ModelD) (r:RdS):StateD × RdS:=enF (gsF m r).1 (csF m (gsF m r).2).1 (psF m (csF m (gsF m r).2).2).1 (psF m (csF m (gsF m r).2).2).2
def okP (m:ModelD) (b:List UInt8) (x:StateD × RdS):Bool:= !(x.2.wrong || decide (0 < x.2.left.length)) && mayB m x.1 && decide (textS x.1=b)
def decP (m:ModelD) (b:List UInt8):Option StateD:=match readP [] b [] with
 | some (l,true)=>if okP m b (stF m ⟨l,false⟩)=true then some (stF m ⟨l,false⟩).1 else none
 | _=>none
def tkF (n:Nat) (r:RdS):List Int × RdS:=if n≤r.left.length then (r.left.take n,⟨r.left.drop n,r.wrong⟩) else (r.left,⟨[],true⟩)
def onF (lo hi:Int) (r:RdS):Int × RdS:=if (tkF 1 r).2.wrong=true∨ (tkF 1 r).1.headD 0 < lo∨hi≤ (tkF 1 r).1.headD 0 then (0,⟨(tkF 1 r).2.left,true⟩) else ((tkF 1 r).1.headD 0,(tkF 1 r).2)
def chQ (m:ModelD) (r:RdS):ChanD × RdS:=
 (⟨(onF 0 m.shapes.length r).1,(manyF (tkF (fieldsN m (onF 0 m.shapes.length r).1)) (onF 0 17 (onF 0 m.shapes.length r).2).1.toNat [] (onF 0 17 (onF 0 m.shapes.length r).2).2).1⟩,(manyF (tkF (fieldsN m (onF 0 m.shapes.length r).1)) (onF 0 17 (onF 0 m.shapes.length r).2).1.toNat [] (onF 0 17 (onF 0 m.shapes.length r).2).2).2)
def prQ (m:ModelD) (r:RdS):ProcessD × RdS:=
 (⟨(onF 0 m.procs.length r).1,(onF 0 256 (onF 0 m.procs.length r).2).1,prioN m (onF 0 m.procs.length r).1,(tkF (frameAt m (onF 0 m.procs.length r).1) (onF 0 256 (onF 0 m.procs.length r).2).2).1⟩,(tkF (frameAt m (onF 0 m.procs.length r).1) (onF 0 256 (onF 0 m.procs.length r).2).2).2)
def gsQ (m:ModelD) (r:RdS):List Int × RdS:=tkF m.globals.length r
def csQ (m:ModelD) (r:RdS):List ChanD × RdS:=manyF (chQ m) (onF 0 33 r).1.toNat [] (onF 0 33 r).2
def psQ (m:ModelD) (r:RdS):List ProcessD × RdS:=manyF (prQ m) (onF 0 17 r).1.toNat [] (onF 0 17 r).2
def enQ (g:List Int) (c:List ChanD) (p:List ProcessD) (r:RdS):StateD × RdS:=(⟨g,c,p,(onF 0 16 r).1,(onF (-1) 16 (onF 0 16 r).2).1,(onF (-1) 256 (onF (-1) 16 (onF 0 16 r).2).2).1⟩,(onF (-1) 256 (onF (-1) 16 (onF 0 16 r).2).2).2)
def stQ (m:ModelD) (r:RdS):StateD × RdS:=enQ (gsQ m r).1 (csQ m (gsQ m r).2).1 (psQ m (csQ m (gsQ m r).2).2).1 (psQ m (csQ m (gsQ m r).2).2).2
def okQ (m:ModelD) (x:StateD × RdS):Bool:= !(x.2.wrong || decide (0 < x.2.left.length)) && mayB m x.1
def decQ (m:ModelD) (b:List UInt8):Option StateD:=match readQ [] b [] with
 | some (l,f)=>if okQ m (stQ m ⟨l, !f⟩)=true then some (stQ m ⟨l, !f⟩).1 else none
 | none=>none
structure Vl (m:ModelD) (s:StateD):Prop where
 g:s.globals.length=m.globals.length
 c:s.chans.length≤32
 p:s.procs.length≤16
 ch:∀c ∈ s.chans,0≤c.shape∧c.shape < m.shapes.length∧c.queue.length≤16∧fieldsN m c.shape≤8∧∀q ∈ c.queue,q.length=fieldsN m c.shape∧∀v ∈ q,inI v
 pr:∀p ∈ s.procs,0≤p.type∧p.type < m.procs.length∧0≤p.loc∧p.loc < 256∧p.prio=prioN m p.type∧p.frame.length=frameAt m p.type∧p.frame.length≤128∧∀v ∈ p.frame,inI v
 last:0≤s.last∧s.last < 16
 alone: -1≤s.alone∧s.alone < 16
 claim: -1≤s.claim∧s.claim < 256
 gs:s.globals.length≤128∧∀v ∈ s.globals,inI v
 sh:m.shapes.length≤32
 ps:m.procs.length≤16∧0 < m.procs.length
theorem pow33s:∀n:Fin 33,(2:Int) ^ n.val≤4294967296∧ -4294967296≤ -(2:Int) ^ n.val:=by decide
theorem fit_in {b:Int} {sg:Bool} {v:Int} (h:fitB b sg v=true):inI v:=by
 unfold fitB tyB at h;simp only [Bool.and_eq_true,decide_eq_true_eq] at h;obtain ⟨⟨⟨h1,h2⟩,-⟩,h3⟩:=h;obtain ⟨k1,-⟩:=pow33s ⟨b.toNat,by omega⟩;obtain ⟨k3,k4⟩:=pow33s ⟨b.toNat - 1,by omega⟩;simp only at k1 k3 k4;unfold inI;split at h3
 · simp only [Bool.and_eq_true,decide_eq_true_eq] at h3;generalize (2:Int) ^ (b.toNat - 1)=p at*;omega
 · simp only [Bool.and_eq_true,decide_eq_true_eq] at h3;generalize (2:Int) ^ b.toNat=p at*;omega
theorem fits_in {t:List (Int × Bool)} {l:List Int} (h:fitsL t l=true):l.length=t.length∧∀v ∈ l,inI v:=by
 unfold fitsL at h;rw [Bool.and_eq_true,decide_eq_true_eq] at h;refine ⟨h.1,fun v hv=> ?_⟩;obtain ⟨j,hj,rfl⟩:=List.mem_iff_getElem.1 hv;have h2:=List.all_eq_true.1 h.2 (t[j]'(by omega),l[j]) (by
  rw [List.mem_iff_getElem];exact ⟨j,by rw [List.length_zip];omega,by simp⟩)
 exact fit_in h2
theorem good_more {m:ModelD} (h:goodB m=true):m.globals.length≤128∧m.shapes.length≤32∧m.procs.length≤16∧0 < m.procs.length∧ -1≤m.claim∧m.claim < m.procs.length:=by
 unfold goodB checkL at h;rw [decide_eq_true_eq] at h;by_cases h1: (globalsL m).2=false
 · rw [if_pos h1] at h;simp at h
 rw [if_neg h1] at h;by_cases h2: (channelsL m).2=false
 · rw [if_pos h2] at h;simp at h
 rw [if_neg h2] at h;by_cases h3: (expressionsL m).2=false
 · rw [if_pos h3] at h;simp at h
 clear h;have g1:m.globals.length≤128:=by
  unfold globalsL at h1;split at h1
  · simp at h1
  · omega
 have g2:m.shapes.length≤32:=by
  unfold channelsL at h2;split at h2
  · simp at h2
  · omega
 unfold expressionsL at h3;split at h3
 · simp at h3
 · rename_i h4
   unfold exprsHead at h4;rw [decide_eq_true_eq] at h4;omega
theorem good_at {m:ModelD} (h:goodB m=true) {t:Nat} {p:ProcD} (hp:m.procs[t]? =some p):p.locs.length≤256∧p.frame.length≤128:=by
 have h1:=(good_gf h).procs (p,t) (by
  rw [List.mem_iff_getElem?];exact ⟨t,by rw [List.getElem?_zipIdx,hp];simp⟩)
 unfold procB frameB frameHeadB placesB placesHeadB at h1;simp only [Bool.and_eq_true,Bool.not_eq_true',decide_eq_false_iff_not,decide_eq_true_eq] at h1;omega
theorem may_vl {m:ModelD} {s:StateD} (hg:goodB m=true) (h:mayB m s=true):Vl m s:=by
 obtain ⟨g1,g2,g3,g4,g5,g6⟩:=good_more hg;unfold mayB mayHeadB mayTailB at h;simp only [Bool.and_eq_true,decide_eq_true_eq] at h;obtain ⟨⟨⟨⟨h1,h2⟩,h3⟩,h4⟩,h5,h6⟩:=h;obtain ⟨f1,f2⟩:=fits_in h1;have hcl: -1≤s.claim∧s.claim < 256:=by
  split at h6
  · rw [decide_eq_true_eq] at h6;omega
  · rw [decide_eq_true_eq] at h6
    rename_i hc
    unfold claimLocs at h6;cases hp:m.procs[m.claim.toNat]? with
    | none=>rw [hp] at h6;simp at h6;omega
    | some p=>
      rw [hp] at h6;have:=(good_at hg hp).1;simp at h6;omega
 refine ⟨f1,by omega,by omega,fun c hc=> ?_,fun p hp=> ?_,by omega,by omega,hcl,⟨by omega,f2⟩,g2,g3,g4⟩
 · have h7:=List.all_eq_true.1 h3 c hc;unfold chanMayB chanHeadB chanFB at h7;rw [Bool.and_eq_true,decide_eq_true_eq] at h7;obtain ⟨h8,h9⟩:=h7;split at h9
   · rename_i sh hsh
     rw [Bool.and_eq_true,decide_eq_true_eq] at h9;have h10:=(good_gf hg).shapes sh (List.mem_of_getElem? hsh);unfold shapeB at h10;simp only [Bool.and_eq_true,Bool.not_eq_true',decide_eq_false_iff_not] at h10;have hf:fieldsN m c.shape=sh.fields.length:=by unfold fieldsN;rw [hsh];rfl
     refine ⟨h8.1,h8.2,by omega,by omega,fun q hq=> ?_⟩;obtain ⟨f3,f4⟩:=fits_in (List.all_eq_true.1 h9.2 q hq);exact ⟨by omega,f4⟩
   · cases h9
 · have h7:=List.all_eq_true.1 h4 p hp;unfold procMayB procHeadB procFB at h7;rw [Bool.and_eq_true,decide_eq_true_eq] at h7;obtain ⟨h8,h9⟩:=h7;split at h9
   · rename_i t ht
     rw [Bool.and_eq_true,decide_eq_true_eq] at h9;obtain ⟨f3,f4⟩:=fits_in h9.2;have h10:=good_at hg ht;have hf:frameAt m p.type=t.frame.length:=by unfold frameAt;rw [ht];rfl
     have hq:prioN m p.type=t.prio:=by unfold prioN;rw [ht];rfl
     exact ⟨h8.1,h8.2.1,h9.1.1,by omega,by omega,by omega,by omega,f4⟩
   · cases h9
theorem Vl.ints {m:ModelD} {s:StateD} (v:Vl m s):∀x ∈ numsOf s,inI x:=by
 intro x hx;have small:∀n:Int,-1≤n→n < 1000→inI n:=fun n h1 h2=>by unfold inI;omega
 unfold numsOf at hx;simp only [List.mem_append,List.mem_cons,List.not_mem_nil,or_false] at hx;rcases hx with hx | rfl | hx | rfl | hx | rfl | rfl | rfl
 · exact v.gs.2 x hx
 · have:=v.c;exact small _ (by omega) (by omega)
 · unfold chansN at hx;rw [List.mem_flatten] at hx;obtain ⟨l,hl,hx⟩:=hx;obtain ⟨c,hc,rfl⟩:=List.mem_map.1 hl;obtain ⟨a1,a2,a3,a4,a5⟩:=v.ch c hc;unfold chanN at hx;simp only [List.mem_cons] at hx;have:=v.sh;rcases hx with rfl | rfl | hx
   · exact small _ (by omega) (by omega)
   · exact small _ (by omega) (by omega)
   · rw [List.mem_flatten] at hx;obtain ⟨q,hq,hx⟩:=hx;exact (a5 q hq).2 x hx
 · have:=v.p;exact small _ (by omega) (by omega)
 · unfold procsN at hx;rw [List.mem_flatten] at hx;obtain ⟨l,hl,hx⟩:=hx;obtain ⟨c,hc,rfl⟩:=List.mem_map.1 hl;obtain ⟨a1,a2,a3,a4,a5,a6,a7,a8⟩:=v.pr c hc;unfold procN at hx;simp only [List.mem_cons] at hx;have:=v.ps;rcases hx with rfl | rfl | hx
   · exact small _ (by omega) (by omega)
   · exact small _ (by omega) (by omega)
   · exact a8 x hx
 · have:=v.last;exact small _ (by omega) (by omega)
 · have:=v.alone;exact small _ (by omega) (by omega)
 · have:=v.claim;exact small _ (by omega) (by omega)
theorem flat_len {α:Type} {l:List (List α)} {k:Nat} (h:∀x ∈ l,x.length≤k):l.flatten.length≤l.length*k:=by
 induction l with
 | nil=>simp
 | cons x r ih=>
   have h1:=h x (by simp);have h2:=ih fun y hy=>h y (by simp [hy])
   simp only [List.flatten_cons,List.length_append,List.length_cons];rw [Nat.add_mul];omega
theorem Vl.many {m:ModelD} {s:StateD} (v:Vl m s): (numsOf s).length≤8000:=by
 have h1: (chansN s.chans).length≤s.chans.length*130:=by
  unfold chansN;have:=flat_len (l:=s.chans.map chanN) (k:=130) (fun x hx=>by
   obtain ⟨c,hc,rfl⟩:=List.mem_map.1 hx;obtain ⟨a1,a2,a3,a4,a5⟩:=v.ch c hc;have:=flat_len (l:=c.queue) (k:=8) fun q hq=>by have:=(a5 q hq).1;omega
   unfold chanN;simp only [List.length_cons];omega)
  simpa using this
 have h2: (procsN s.procs).length≤s.procs.length*130:=by
  unfold procsN;have:=flat_len (l:=s.procs.map procN) (k:=130) (fun x hx=>by
   obtain ⟨c,hc,rfl⟩:=List.mem_map.1 hx;obtain ⟨a1,a2,a3,a4,a5,a6,a7,a8⟩:=v.pr c hc;unfold procN;simp only [List.length_cons];omega)
  simpa using this
 have:=v.gs.1;have:=v.c;have:=v.p;unfold numsOf;simp only [List.length_append,List.length_cons,List.length_nil];omega
theorem be_one {most v:Int} (h:0≤v∧v < most) (rest:List Int):beF most ⟨v :: rest,false⟩= (v,⟨rest,false⟩):=by
 unfold beF;rw [show nxF ⟨v :: rest,false⟩= (v,⟨rest,false⟩) from rfl];simp only;rw [if_neg (by omega)]
theorem on_one {lo hi v:Int} (h:lo≤v∧v < hi) (rest:List Int):onF lo hi ⟨v :: rest,false⟩= (v,⟨rest,false⟩):=by
 unfold onF;rw [show tkF 1 ⟨v :: rest,false⟩= ([v],⟨rest,false⟩) from by unfold tkF;simp];exact if_neg (by simp;omega)
theorem li_all:∀ (n:Nat) (a rest:List Int),a.length=n→liF n ⟨a ++ rest,false⟩= (a,⟨rest,false⟩):=by
 intro n
 induction n with
 | zero=>
   intro a rest h;rw [List.length_eq_zero_iff.1 h];rfl
 | succ n ih=>
   intro a rest h;have h1:a=a.take n ++ [a[n]]:=by
    rw [←List.take_succ_eq_append_getElem (by omega),List.take_of_length_le (by omega)]
   have h2:=ih (a.take n) (a[n] :: rest) (by rw [List.length_take];omega);have h3:a ++ rest=a.take n ++ a[n] :: rest:=by
    rw [show a.take n ++ a[n] :: rest= (a.take n ++ [a[n]]) ++ rest by simp only [List.append_assoc,List.singleton_append],←h1]
   rw [h3,liF,h2];simp only [nxF];rw [←h1]
theorem tk_all (n:Nat) (a rest:List Int) (h:a.length=n):tkF n ⟨a ++ rest,false⟩= (a,⟨rest,false⟩):=by
 subst h;unfold tkF;simp
theorem qu_all (f:Nat):∀ (n:Nat) (q:List (List Int)) (rest:List Int),q.length=n→ (∀x ∈ q,x.length=f)→quF f n ⟨q.flatten ++ rest,false⟩= (q,⟨rest,false⟩):=by
 intro n
 induction n with
 | zero=>
   intro a rest h _;rw [List.length_eq_zero_iff.1 h];rfl
 | succ n ih=>
   intro a rest h hf;have h1:a=a.take n ++ [a[n]]:=by
    rw [←List.take_succ_eq_append_getElem (by omega),List.take_of_length_le (by omega)]
   have h2:=ih (a.take n) (a[n] ++ rest) (by rw [List.length_take];omega) fun x hx=>hf x (List.mem_of_mem_take hx)
   have h3:a.flatten ++ rest= (a.take n).flatten ++ (a[n] ++ rest):=by
    rw [show (a.take n).flatten ++ (a[n] ++ rest)= (a.take n ++ [a[n]]).flatten ++ rest by simp only [List.flatten_append,List.flatten_singleton,List.append_assoc],←h1]
   rw [h3,quF,h2];simp only;rw [li_all f a[n] rest (hf _ (List.getElem_mem _))];simp only;rw [←h1]
theorem many_all {α:Type} (g:RdS→α × RdS) (enc:α→List Int):∀ (xs l:List α) (rest:List Int),(∀x ∈ xs,∀rest,g ⟨enc x ++ rest,false⟩= (x,⟨rest,false⟩))→manyF g xs.length l ⟨(xs.map enc).flatten ++ rest,false⟩= (l ++ xs,⟨rest,false⟩)
 | [],l,rest,_=>by simp [manyF]
 | x :: xs,l,rest,h=>by
   rw [List.length_cons,manyF,if_neg (by simp)];rw [List.map_cons,List.flatten_cons,List.append_assoc,h x (by simp)];simp only;rw [many_all g enc xs _ rest fun y hy=>h y (by simp [hy])];simp
theorem ch_all {m:ModelD} {s:StateD} (v:Vl m s) {c:ChanD} (hc:c ∈ s.chans) (rest:List Int):chF m ⟨chanN c ++ rest,false⟩= (c,⟨rest,false⟩):=by
 obtain ⟨a1,a2,a3,a4,a5⟩:=v.ch c hc;unfold chF chanN;rw [List.cons_append,List.cons_append,be_one ⟨a1,a2⟩];simp only;rw [be_one (by omega)];simp only;rw [if_neg (by simp),Int.toNat_natCast,qu_all _ _ _ _ rfl fun q hq=>(a5 q hq).1]
theorem chQ_all {m:ModelD} {s:StateD} (v:Vl m s) {c:ChanD} (hc:c ∈ s.chans) (rest:List Int):chQ m ⟨chanN c ++ rest,false⟩= (c,⟨rest,false⟩):=by
 obtain ⟨a1,a2,a3,a4,a5⟩:=v.ch c hc;unfold chQ chanN;rw [List.cons_append,List.cons_append,on_one ⟨a1,a2⟩];simp only;rw [on_one (by omega)];simp only;have h:=many_all (tkF (fieldsN m c.shape)) id c.queue [] rest fun x hx r=>tk_all _ _ _ (a5 x hx).1
 rw [List.map_id] at h;rw [Int.toNat_natCast,h];rfl
theorem pr_all {m:ModelD} {s:StateD} (v:Vl m s) {p:ProcessD} (hp:p ∈ s.procs) (rest:List Int):prF m ⟨procN p ++ rest,false⟩= (p,⟨rest,false⟩):=by
 obtain ⟨a1,a2,a3,a4,a5,a6,a7,a8⟩:=v.pr p hp;unfold prF procN;rw [List.cons_append,List.cons_append,be_one ⟨a1,a2⟩];simp only;rw [be_one ⟨a3,a4⟩];simp only;rw [li_all _ _ _ a6,←a5]
theorem prQ_all {m:ModelD} {s:StateD} (v:Vl m s) {p:ProcessD} (hp:p ∈ s.procs) (rest:List Int):prQ m ⟨procN p ++ rest,false⟩= (p,⟨rest,false⟩):=by
 obtain ⟨a1,a2,a3,a4,a5,a6,a7,a8⟩:=v.pr p hp;unfold prQ procN;rw [List.cons_append,List.cons_append,on_one ⟨a1,a2⟩];simp only;rw [on_one ⟨a3,a4⟩];simp only;rw [tk_all _ _ _ a6,←a5]
theorem st_all {m:ModelD} {s:StateD} (v:Vl m s):stF m ⟨numsOf s,false⟩= (s,⟨[],false⟩):=by
 have hc:=v.c;have hp:=v.p;have e1:gsF m ⟨numsOf s,false⟩= (s.globals,⟨(s.chans.length:Int) :: (chansN s.chans ++ ((s.procs.length:Int) :: (procsN s.procs ++ [s.last,s.alone,s.claim]))),false⟩):=li_all _ _ _ v.g;have e2:csF m ⟨(s.chans.length:Int) :: (chansN s.chans ++ ((s.procs.length:Int) :: (procsN s.procs ++ [s.last,s.alone,s.claim]))),false⟩= (s.chans,⟨(s.procs.length:Int) :: (procsN s.procs ++ [s.last,s.alone,s.claim]),false⟩):=by
  unfold csF;rw [be_one (by omega)];simp only;rw [Int.toNat_natCast];exact many_all (chF m) chanN s.chans [] _ fun x hx r=>ch_all v hx r
 have e3:psF m ⟨(s.procs.length:Int) :: (procsN s.procs ++ [s.last,s.alone,s.claim]),false⟩= (s.procs,⟨[s.last,s.alone,s.claim],false⟩):=by
  unfold psF;rw [be_one (by omega)];simp only;rw [Int.toNat_natCast];exact many_all (prF m) procN s.procs [] _ fun x hx r=>pr_all v hx r
 unfold stF;rw [e1];simp only;rw [e2];simp only;rw [e3];rfl
theorem stQ_all {m:ModelD} {s:StateD} (v:Vl m s):stQ m ⟨numsOf s,false⟩= (s,⟨[],false⟩):=by
 have hc:=v.c;have hp:=v.p;have e1:gsQ m ⟨numsOf s,false⟩= (s.globals,⟨(s.chans.length:Int) :: (chansN s.chans ++ ((s.procs.length:Int) :: (procsN s.procs ++ [s.last,s.alone,s.claim]))),false⟩):=tk_all _ _ _ v.g;have e2:csQ m ⟨(s.chans.length:Int) :: (chansN s.chans ++ ((s.procs.length:Int) :: (procsN s.procs ++ [s.last,s.alone,s.claim]))),false⟩= (s.chans,⟨(s.procs.length:Int) :: (procsN s.procs ++ [s.last,s.alone,s.claim]),false⟩):=by
  unfold csQ;rw [on_one (by omega)];simp only;rw [Int.toNat_natCast];exact many_all (chQ m) chanN s.chans [] _ fun x hx r=>chQ_all v hx r
 have e3:psQ m ⟨(s.procs.length:Int) :: (procsN s.procs ++ [s.last,s.alone,s.claim]),false⟩= (s.procs,⟨[s.last,s.alone,s.claim],false⟩):=by
  unfold psQ;rw [on_one (by omega)];simp only;rw [Int.toNat_natCast];exact many_all (prQ m) procN s.procs [] _ fun x hx r=>prQ_all v hx r
 unfold stQ;rw [e1];simp only;rw [e2];simp only;rw [e3];simp only [enQ];rw [on_one v.last];simp only;rw [on_one v.alone];simp only;rw [on_one v.claim]
theorem decP_iff {m:ModelD} (hg:goodB m=true) (b:List UInt8) (s:StateD):decP m b=some s↔mayB m s=true∧textS s=b:=by
 constructor
 · intro h;unfold decP at h;split at h
   · split at h
     · rename_i h2
       injection h with h
       subst h;unfold okP at h2;simp only [Bool.and_eq_true,decide_eq_true_eq] at h2;exact ⟨h2.1.2,h2.2⟩
     · cases h
   · cases h
 · rintro ⟨h1,rfl⟩;have v:=may_vl hg h1;unfold decP;rw [show readP [] (textS s) []=some (numsOf s,true) from readP_row _ [] v.ints];simp only;rw [st_all v];simp only;rw [if_pos (by unfold okP;simp [h1])]
def Snd {α:Type} (g:RdS→α × RdS) (enc:α→List Int):Prop:=∀r,(g r).2.wrong=false→r.wrong=false∧r.left=enc (g r).1 ++ (g r).2.left
theorem tk_snd (n:Nat):Snd (tkF n) id:=by
 intro r h;unfold tkF at h ⊢;split
 · rename_i h1
   rw [if_pos h1] at h;exact ⟨h,by simp⟩
 · rename_i h1
   rw [if_neg h1] at h;cases h
theorem on_snd (lo hi:Int):∀r,(onF lo hi r).2.wrong=false→r.wrong=false∧r.left= (onF lo hi r).1 :: (onF lo hi r).2.left∧lo≤ (onF lo hi r).1∧ (onF lo hi r).1 < hi:=by
 intro r h;unfold onF at h ⊢;split
 · rename_i h1
   rw [if_pos h1] at h;cases h
 · rename_i h1
   rw [if_neg h1] at h;obtain ⟨h2,h3⟩:=tk_snd 1 r h;simp only [not_or] at h1;refine ⟨h2, ?_,by omega,by omega⟩;unfold tkF at h3 h ⊢;split
   · rename_i h4
     rw [if_pos h4] at h3;cases hl:r.left with
     | nil=>rw [hl] at h4;simp at h4
     | cons x t=>simp
   · rename_i h4
     rw [if_neg h4] at h;cases h
theorem many_snd {α:Type} {g:RdS→α × RdS} {enc:α→List Int} (hs:Snd g enc):∀ (n:Nat) (l:List α) (r:RdS),(manyF g n l r).2.wrong=false→r.wrong=false∧∃t,(manyF g n l r).1=l ++ t∧t.length=n∧r.left= (t.map enc).flatten ++ (manyF g n l r).2.left
 | 0,l,r,h=>⟨h,[],by simp [manyF],rfl,by simp [manyF]⟩
 | n+1,l,r,h=>by
   rw [manyF] at h ⊢;split at h
   · rename_i h1;rw [h1] at h;cases h
   · rename_i h1
     rw [if_neg h1];obtain ⟨h2,t,h3,h4,h5⟩:=many_snd hs n _ _ h;obtain ⟨h6,h7⟩:=hs r h2;exact ⟨h6,(g r).1 :: t,by rw [h3];simp,by simp [h4],by rw [h7,h5];simp⟩
theorem chQ_snd (m:ModelD):Snd (chQ m) chanN:=by
 intro r h;unfold chQ at h ⊢;simp only at h ⊢;obtain ⟨h1,t,h2,h3,h4⟩:=many_snd (tk_snd _) _ _ _ h;obtain ⟨k1,k2,k3,k4⟩:=on_snd _ _ _ h1;obtain ⟨j1,j2,j3,j4⟩:=on_snd _ _ _ k1;refine ⟨j1, ?_⟩;unfold chanN;simp only;rw [h2,j2,k2,h4];simp only [List.nil_append,List.map_id,List.cons_append,h3];congr 2;omega
theorem prQ_snd (m:ModelD):Snd (prQ m) procN:=by
 intro r h;unfold prQ at h ⊢;simp only at h ⊢;obtain ⟨h1,h2⟩:=tk_snd _ _ h;obtain ⟨k1,k2,k3,k4⟩:=on_snd _ _ _ h1;obtain ⟨j1,j2,j3,j4⟩:=on_snd _ _ _ k1;refine ⟨j1, ?_⟩;unfold procN;simp only;rw [j2,k2,h2];rfl
theorem csQ_snd (m:ModelD):∀r,(csQ m r).2.wrong=false→r.wrong=false∧r.left= (((csQ m r).1.length:Nat):Int) :: (chansN (csQ m r).1 ++ (csQ m r).2.left):=by
 intro r h;unfold csQ at h ⊢;obtain ⟨h1,t,h2,h3,h4⟩:=many_snd (chQ_snd m) _ _ _ h;obtain ⟨k1,k2,k3,k4⟩:=on_snd _ _ _ h1;refine ⟨k1, ?_⟩;rw [h2,k2,h4];simp only [List.nil_append,h3,chansN];congr 1;omega
theorem psQ_snd (m:ModelD):∀r,(psQ m r).2.wrong=false→r.wrong=false∧r.left= (((psQ m r).1.length:Nat):Int) :: (procsN (psQ m r).1 ++ (psQ m r).2.left):=by
 intro r h;unfold psQ at h ⊢;obtain ⟨h1,t,h2,h3,h4⟩:=many_snd (prQ_snd m) _ _ _ h;obtain ⟨k1,k2,k3,k4⟩:=on_snd _ _ _ h1;refine ⟨k1, ?_⟩;rw [h2,k2,h4];simp only [List.nil_append,h3,procsN];congr 1;omega
theorem stQ_snd (m:ModelD):∀r,(stQ m r).2.wrong=false→r.wrong=false∧r.left=numsOf (stQ m r).1 ++ (stQ m r).2.left:=by
 intro r h;unfold stQ enQ at h ⊢;simp only at h ⊢;obtain ⟨a1,a2,-,-⟩:=on_snd _ _ _ h;obtain ⟨b1,b2,-,-⟩:=on_snd _ _ _ a1;obtain ⟨c1,c2,-,-⟩:=on_snd _ _ _ b1;obtain ⟨d1,d2⟩:=psQ_snd m _ c1;obtain ⟨e1,e2⟩:=csQ_snd m _ d1;obtain ⟨f1,f2⟩:=tk_snd _ _ e1;refine ⟨f1, ?_⟩;unfold numsOf;simp only;have f3:r.left= (gsQ m r).1 ++ (gsQ m r).2.left:=f2;rw [f3,e2,d2,c2,b2,a2];simp
theorem decQ_iff {m:ModelD} (hg:goodB m=true) (b:List UInt8) (s:StateD):decQ m b=some s↔mayB m s=true∧textS s=b:=by
 constructor
 · intro h;unfold decQ at h;split at h
   · rename_i l f hr
     split at h
     · rename_i h2
       injection h with h
       subst h;unfold okQ at h2;simp only [Bool.and_eq_true,Bool.not_eq_true',Bool.or_eq_false_iff,decide_eq_false_iff_not] at h2;obtain ⟨⟨h3,h4⟩,h5⟩:=h2;obtain ⟨h6,h7⟩:=stQ_snd m _ h3;simp only [Bool.not_eq_false'] at h6;subst h6;obtain ⟨t,h8,h9⟩:=readQ_sound _ _ _ _ hr;simp only [List.nil_append] at h8 h9;subst h8;have h10: (stQ m ⟨l, !true⟩).2.left= []:=List.length_eq_zero_iff.1 (by omega);rw [h10,List.append_nil] at h7;simp only at h7;exact ⟨h5,by unfold textS;rw [←h7,h9]⟩
     · cases h
   · cases h
 · rintro ⟨h1,rfl⟩;have v:=may_vl hg h1;unfold decQ;rw [show readQ [] (textS s) []=some (numsOf s,true) from readQ_row _ [] v.ints];simp only [Bool.not_true];rw [stQ_all v];simp only;rw [if_pos (by unfold okQ;simp [h1])]
theorem dec_same {m:ModelD} (hg:goodB m=true) (b:List UInt8):decQ m b=decP m b:=by
 apply Option.ext;intro s;rw [decQ_iff hg,decP_iff hg]
theorem text_inj {m:ModelD} (hg:goodB m=true) {s t:StateD} (h1:mayB m s=true) (h2:mayB m t=true) (h:textS s=textS t):s=t:=by
 have h3:=(decP_iff hg (textS s) s).2 ⟨h1,rfl⟩;have h4:=(decP_iff hg (textS s) t).2 ⟨h2,h.symm⟩;rw [h3] at h4;injection h4
def pre1 (s:StateD) (i:Nat):List Int:=s.globals ++ ((s.chans.length:Int) :: chansN (s.chans.take i))
def pre2 (s:StateD) (j:Nat):List Int:=s.globals ++ ((s.chans.length:Int) :: (chansN s.chans ++ ((s.procs.length:Int) :: procsN (s.procs.take j))))
theorem chans_take {l:List ChanD} {i:Nat} (h:i < l.length):chansN (l.take (i+1))=chansN (l.take i) ++ chanN l[i]:=by
 unfold chansN;rw [List.take_succ_eq_append_getElem h,List.map_append,List.flatten_append];simp only [List.map_cons,List.map_nil,List.flatten_cons,List.flatten_nil,List.append_nil]
theorem procs_take {l:List ProcessD} {i:Nat} (h:i < l.length):procsN (l.take (i+1))=procsN (l.take i) ++ procN l[i]:=by
 unfold procsN;rw [List.take_succ_eq_append_getElem h,List.map_append,List.flatten_append];simp only [List.map_cons,List.map_nil,List.flatten_cons,List.flatten_nil,List.append_nil]
theorem flat_at {α β:Type} (f:α→List β) {l:List α} {i:Nat} (h:i < l.length): (l.map f).flatten= ((l.take i).map f).flatten ++ (f l[i] ++ ((l.drop (i+1)).map f).flatten):=by
 conv=>lhs;rw [←List.take_append_drop i l,List.drop_eq_getElem_cons h]
 rw [List.map_append,List.flatten_append,List.map_cons,List.flatten_cons]
theorem pre1_succ {s:StateD} {i:Nat} (h:i < s.chans.length):pre1 s (i+1)=pre1 s i ++ chanN s.chans[i]:=by
 unfold pre1;rw [chans_take h];simp
theorem pre2_succ {s:StateD} {i:Nat} (h:i < s.procs.length):pre2 s (i+1)=pre2 s i ++ procN s.procs[i]:=by
 unfold pre2;rw [procs_take h];simp
theorem pre1_split {s:StateD} {i:Nat} (h:i < s.chans.length):∃r,numsOf s=pre1 s i ++ (chanN s.chans[i] ++ r):=by
 refine ⟨chansN (s.chans.drop (i+1)) ++ ((s.procs.length:Int) :: (procsN s.procs ++ [s.last,s.alone,s.claim])), ?_⟩;unfold numsOf pre1;rw [show chansN s.chans=chansN (s.chans.take i) ++ (chanN s.chans[i] ++ chansN (s.chans.drop (i+1))) from flat_at chanN h];simp
theorem pre2_split {s:StateD} {i:Nat} (h:i < s.procs.length):∃r,numsOf s=pre2 s i ++ (procN s.procs[i] ++ r):=by
 refine ⟨procsN (s.procs.drop (i+1)) ++ [s.last,s.alone,s.claim], ?_⟩;unfold numsOf pre2;rw [show procsN s.procs=procsN (s.procs.take i) ++ (procN s.procs[i] ++ procsN (s.procs.drop (i+1))) from flat_at procN h];simp
theorem pre1_end (s:StateD):pre1 s s.chans.length ++ [(s.procs.length:Int)]=pre2 s 0:=by
 unfold pre1 pre2;simp [procsN]
theorem pre2_end (s:StateD):pre2 s s.procs.length ++ [s.last,s.alone,s.claim]=numsOf s:=by
 unfold numsOf pre2;simp
theorem text_pos (s:StateD):0 < (textS s).length:=by
 unfold textS;rw [←pre2_end,show [s.last,s.alone,s.claim]= [s.last,s.alone] ++ [s.claim] from rfl,←List.append_assoc,rowT_append,rowT_one];simp;omega
end Go.Proofs.YtnoibjahliafpaaDoor
