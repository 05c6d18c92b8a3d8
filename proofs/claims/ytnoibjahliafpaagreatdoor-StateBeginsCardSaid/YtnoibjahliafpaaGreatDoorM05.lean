/- The document's answer to which models may be run, as functions of data near its words; and that they are the program's. -/
import Derived.Test.YtnoibjahliafpaaGreatDoorM04
import Derived.Test.YtnoibjahliafpaaGreatDoorM01
import Derived.StillTailTactics
set_option linter.unusedVariables false
set_option linter.unusedSimpArgs false
namespace Go.Proofs.YtnoibjahliafpaaGreatDoor
def belowB (n:Int) (l:List Int):Bool:=l.all (fun q=>decide (0≤q∧q < n))
def ddimB (n:Int) (d:DimD):Bool:=decide (0≤d.i∧d.i < n) && dimB d
def dvtB (m:ModelD) (n:Int) (v:VarD):Bool:=if v.scope=2 then decide (0≤v.who∧v.who < n) && ptypeB m v.type else decide (v.who= -1∧v.type= -1)
def dvarB (m:ModelD) (n:Int) (v:VarD):Bool:=varHeadB v && dvtB m n v && v.dims.all (ddimB n)
def dfieldB (m:ModelD) (x:Int × Int):Bool:=decide (-1≤x.2∧x.2≤1) && (!(decide (x.2=0)) || decide (opAt m x.1=2))
def dmatB (m:ModelD) (n:Int) (args mat:List Int):Bool:=belowB n args && decide (1≤args.length∧args.length≤8∧mat.length=args.length) && (args.zip mat).all (dfieldB m)
def dpartB (n:Int) (k:Nat) (x:Int × Nat):Bool:=if x.2 < k then decide (0≤x.1∧x.1 < n) else decide (x.1= -1)
def dheadB (n:Int) (x:ExprD):Bool:=(abcL x).zipIdx.all (dpartB n (partsOf x.op))
def dkindB (m:ModelD) (n:Int) (x:ExprD):Bool:=
 if x.op=1 then decide (-2147483648≤x.n∧x.n≤2147483647) else if x.op=2 then dvarB m n x.v else if x.op=30 then dmatB m n x.args x.mat && decide (x.n=0∨x.n=1)
 else if x.op=38 then ptypeB m x.n && decide (1≤x.args.length) && belowB (locsAt m x.n) x.args else if x.op=39 then ptypeB m x.n && belowB n x.args && decide ((x.args.length:Int)=paramsAt m x.n) else true
def dexprB (m:ModelD) (n:Int) (x:ExprD):Bool:=decide (1≤x.op∧x.op≤39) && dheadB n x && dkindB m n x
theorem below_mono {n k:Int} {l:List Int} (h:belowB n l=true) (hk:n≤k):belowB k l=true:=by
 unfold belowB at h ⊢;rw [List.all_eq_true] at h ⊢;intro q hq;have:=h q hq;simp only [decide_eq_true_eq] at this ⊢;omega
theorem below_app {n:Int} {a b:List Int}:belowB n (a ++ b)= (belowB n a && belowB n b):=by unfold belowB;rw [List.all_append]
theorem ptypeB_of {m:ModelD} {n:Int}:ptypeB m n=true↔0≤n∧n < m.procs.length∧n≠m.claim:=by unfold ptypeB;rw [decide_eq_true_eq]
theorem head_is (n:Int) (x:ExprD):dheadB n x= (restB x && belowB n ((abcL x).take (partsOf x.op))):=by
 unfold dheadB restB belowB abcL dpartB;have h:partsOf x.op=0∨partsOf x.op=1∨partsOf x.op=2∨partsOf x.op=3:=by
  unfold partsOf
  repeat' split
  all_goals simp
 rcases h with h | h | h | h <;> rw [h] <;> rw [Bool.eq_iff_iff] <;> simp [List.zipIdx] <;> (try omega)
theorem var_is (m:ModelD) (n:Int) (v:VarD):dvarB m n v= (varB m v && belowB n ((if v.scope=2 then [v.who] else []) ++ v.dims.map (·.i))):=by
 unfold dvarB dvtB varB varTailB ddimB;rw [below_app];have e:v.dims.all (fun d=>decide (0≤d.i∧d.i < n) && dimB d)= (belowB n (v.dims.map (·.i)) && v.dims.all dimB):=by
  unfold belowB
  induction v.dims with
  | nil=>rfl
  | cons d r ih=>
    simp only [List.all_cons,List.map_cons,ih];cases decide (0≤d.i∧d.i < n) <;> cases dimB d <;> cases (List.map (fun x=>x.i) r).all (fun q=>decide (0≤q∧q < n)) <;> rfl
 rw [e];by_cases h:v.scope=2
 · simp only [if_pos h];have e2:belowB n [v.who]=decide (0≤v.who∧v.who < n):=by unfold belowB;simp
   rw [e2];cases varHeadB v <;> cases decide (0≤v.who∧v.who < n) <;> cases ptypeB m v.type <;> cases belowB n (v.dims.map (·.i)) <;> cases v.dims.all dimB <;> rfl
 · simp only [if_neg h];have e2:belowB n []=true:=rfl;rw [e2];cases varHeadB v <;> cases decide (v.who= -1∧v.type= -1) <;> cases belowB n (v.dims.map (·.i)) <;> cases v.dims.all dimB <;> rfl
theorem zip_all {m:ModelD} {n:Int} (hn:n≤m.exprs.length):∀ (args mat:List Int),mat.length=args.length→belowB n args=true→ (args.zip mat).all (dfieldB m)= (args.zip mat).all (fieldB m)
 | [],_,_,_=>rfl
 | a :: r,[],h,_=>by simp at h
 | a :: r,q :: s,h,hb=>by
   have hb': (0≤a∧a < n)∧belowB n r=true:=by
    unfold belowB at hb ⊢;simpa using hb
   simp only [List.zip_cons_cons,List.all_cons,zip_all hn r s (by simpa using h) hb'.2];congr 1;unfold dfieldB fieldB isVarB;have e:isExprB m a=true:=by unfold isExprB;rw [decide_eq_true_eq];omega
   simp only [e,Bool.true_and]
theorem mat_is {m:ModelD} {n:Int} (hn:n≤m.exprs.length) (args mat:List Int):dmatB m n args mat= (fieldsB m args mat && belowB n args):=by
 unfold dmatB fieldsB;cases hb:belowB n args
 · simp
 · by_cases h:1≤args.length∧args.length≤8∧mat.length=args.length
   · rw [decide_eq_true h,decide_eq_false (by omega),zip_all hn args mat h.2.2 hb];simp
   · rw [decide_eq_false h,decide_eq_true (by omega)];simp
theorem fit32 (v:Int):fitB 32 true v=decide (-2147483648≤v∧v≤2147483647):=by
 have e:fitB 32 true v= (decide (-2147483648≤v) && decide (v < 2147483648)):=by unfold fitB;rfl
 rw [e,Bool.eq_iff_iff];simp;omega
theorem kind_is {m:ModelD} {n:Int} (hn:n≤m.exprs.length) (x:ExprD):dkindB m n x= (kindB m x && belowB n (moreL x)):=by
 unfold dkindB kindB moreL;by_cases h1:x.op=1
 · simp [h1,fit32,belowB]
 by_cases h2:x.op=2
 · simp only [if_neg h1,if_pos h2];exact var_is m n x.v
 by_cases h3:x.op=30
 · simp only [if_neg h1,if_neg h2,if_pos h3,if_pos (Or.inl h3:x.op=30∨x.op=39)];rw [mat_is hn];cases fieldsB m x.args x.mat <;> cases belowB n x.args <;> cases decide (x.n=0∨x.n=1) <;> rfl
 by_cases h4:x.op=38
 · have h5:¬ (x.op=30∨x.op=39):=by omega
   simp only [if_neg h1,if_neg h2,if_neg h3,if_pos h4,if_neg h5];have e2:belowB n []=true:=rfl;rw [e2];unfold atB belowB;have e3:decide (1≤x.args.length)= !(decide (x.args.length=0)):=by
    rw [Bool.eq_iff_iff];simp only [decide_eq_true_eq,Bool.not_eq_true',decide_eq_false_iff_not];omega
   rw [e3];cases ptypeB m x.n <;> cases decide (x.args.length=0) <;> cases x.args.all (fun q=>decide (0≤q∧q < locsAt m x.n)) <;> rfl
 by_cases h6:x.op=39
 · simp only [if_neg h1,if_neg h2,if_neg h3,if_neg h4,if_pos h6,if_pos (Or.inr h6:x.op=30∨x.op=39)];cases ptypeB m x.n <;> cases belowB n x.args <;> cases decide ((x.args.length:Int)=paramsAt m x.n) <;> rfl
 · have h5:¬ (x.op=30∨x.op=39):=by omega
   simp only [if_neg h1,if_neg h2,if_neg h3,if_neg h4,if_neg h6,if_neg h5];rfl
theorem expr_is {m:ModelD} {n:Int} (hn:n≤m.exprs.length) (x:ExprD):dexprB m n x= (exprB m x && belowB n (partsL x)):=by
 unfold dexprB exprB partsL;rw [head_is,kind_is hn,below_app];cases decide (1≤x.op∧x.op≤39) <;> cases restB x <;> cases kindB m x <;> cases belowB n ((abcL x).take (partsOf x.op)) <;> cases belowB n (moreL x) <;> rfl
theorem take_no {i:Nat}:∀ (l:List Int) (s:List Bool),(l.foldl (takePart i) (s,false)).2=false
 | [],s=>rfl
 | p :: r,s=>by
   rw [List.foldl_cons];unfold takePart;split
   · exact take_no r s
   · exact take_no r _
theorem take_bad {i:Nat} {l:List Int} {s:List Bool × Bool} (h:s.2=false): (l.foldl (takePart i) s).2=false:=by
 obtain ⟨a,b⟩:=s;simp only at h;subst h;exact take_no l a
theorem take_below {i:Nat}:∀ (l:List Int) (s:List Bool × Bool),(l.foldl (takePart i) s).2=true→belowB i l=true
 | [],s,_=>rfl
 | p :: r,s,h=>by
   rw [List.foldl_cons] at h;have h1:=take_below r _ h;unfold belowB at h1 ⊢;rw [List.all_cons,h1,Bool.and_true,decide_eq_true_eq];cases h2: (takePart i s p).2
   · rw [take_bad h2] at h;cases h
   · unfold takePart at h2;split at h2
     · cases h2
     · omega
def duseB (m:ModelD) (pr:Nat) (x:ExprD) (run:Bool):Bool:=
 !(decide (x.op=39) && !run) && !(decide ((pr:Int)=m.claim) && decide (x.op=31∨x.op=39∨ (x.op=2∧x.v.scope=1))) && !(decide (x.op=2∧roomL m pr x.v < reachL x.v))
def usesD (m:ModelD) (pr:Nat):Nat→Int→Bool→Bool
 | 0,_,_=>false
 | f+1,k,run=>match m.exprs[k.toNat]? with
   | none=>false
   | some x=>duseB m pr x run && (partsL x).all (fun q=>usesD m pr f q false)
theorem uses_more {m:ModelD} (hx:EX m) {pr:Nat}:∀ (f:Nat) (k:Int) (run:Bool),k.toNat < f→usesD m pr f k run=usesD m pr (k.toNat+1) k run
 | 0,k,run,h=>by omega
 | f+1,k,run,h=>by
   rw [usesD,usesD];cases hk:m.exprs[k.toNat]? with
   | none=>rfl
   | some x=>
     simp only;congr 1;rw [Bool.eq_iff_iff,List.all_eq_true,List.all_eq_true];refine forall_congr' fun q=>forall_congr' fun hq=> ?_
     have h1:=(hx.ok _ _ hk).2 q hq;rw [uses_more hx f q false (by omega),uses_more hx k.toNat q false (by omega)]
termination_by f=>f
def okU (m:ModelD) (pr:Nat) (k:Int):Bool:=usesD m pr (k.toNat+1) k false
theorem use_is (m:ModelD) (pr:Nat) (x:ExprD):duseB m pr x false=useB m pr x:=by
 unfold duseB useB liesB;by_cases h1:x.op=39
 · simp [h1]
 by_cases h2:x.op=31
 · simp [h1,h2]
 by_cases h3:x.op=2
 · simp [h1,h2,h3];by_cases h4:x.v.scope=1 <;> by_cases h5: (pr:Int)=m.claim <;> simp [h4,h5]
   all_goals rw [Bool.eq_iff_iff];simp
 · simp [h1,h2,h3]
theorem ok_step {m:ModelD} (hx:EX m) {pr:Nat} {k:Nat} {x:ExprD} (h:m.exprs[k]? =some x):okU m pr k= (useB m pr x && (partsL x).all (okU m pr)):=by
 unfold okU;rw [usesD];simp only [Int.toNat_natCast,h,use_is];congr 1;rw [Bool.eq_iff_iff,List.all_eq_true,List.all_eq_true];refine forall_congr' fun q=>forall_congr' fun hq=> ?_
 have h1:=(hx.ok _ _ h).2 q hq;rw [uses_more hx k q false (by omega)]
structure Shut (m:ModelD) (pr:Nat) (seen left:List Int):Prop where
 len:seen.length=m.exprs.length
 le:∀v ∈ seen,v≤ (pr:Int)+1
 shut:∀ (q:Nat) (x:ExprD),seen[q]? =some ((pr:Int)+1)→m.exprs[q]? =some x→useB m pr x=true∧∀p ∈ partsL x,seen[p.toNat]? =some ((pr:Int)+1)∨p ∈ left
theorem Shut.ok {m:ModelD} (hx:EX m) {pr:Nat} {seen:List Int} (h:Shut m pr seen []):∀ (q:Nat),seen[q]? =some ((pr:Int)+1)→okU m pr q=true
 | q,hq=>by
   have hl:q < m.exprs.length:=by
    obtain ⟨h1,-⟩:=List.getElem?_eq_some_iff.1 hq;rw [←h.len];exact h1
   have he:=List.getElem?_eq_getElem hl;rw [ok_step hx he];obtain ⟨h1,h2⟩:=h.shut q _ hq he;rw [h1,Bool.true_and,List.all_eq_true];intro p hp;have hb:=(hx.ok _ _ he).2 p hp;rcases h2 p hp with h3 | h3
   · have e:p= (p.toNat:Int):=by omega
     rw [e];exact Shut.ok hx h p.toNat h3
   · cases h3
termination_by q=>q
decreasing_by omega
theorem usesF_shut {m:ModelD} (hx:EX m) {pr:Nat}:∀ (f:Nat) (seen left:List Int),Shut m pr seen left→ (∀q ∈ left,0≤q)→ (usesF m pr f seen left).1=true→
 Shut m pr (usesF m pr f seen left).2 []∧ (∀q:Nat,seen[q]? =some ((pr:Int)+1)→ (usesF m pr f seen left).2[q]? =some ((pr:Int)+1))∧∀q ∈ left,(usesF m pr f seen left).2[q.toNat]? =some ((pr:Int)+1)
 | 0,seen,left,_,_,h=>by simp [usesF] at h
 | f+1,seen,left,hs,h0,h=>by
   rcases List.eq_nil_or_concat left with rfl | ⟨l,q,rfl⟩
   · rw [usesF_nil];exact ⟨hs,fun _ h=>h,fun q hq=>by cases hq⟩
   have hq0:0≤q:=h0 q (by simp);obtain ⟨k,rfl⟩:∃k:Nat,q=k:=⟨q.toNat,by omega⟩;rw [List.concat_eq_append] at hs h h0 ⊢;by_cases hk:seen[k]? =some ((pr:Int)+1)
   · rw [usesF_seen hk] at h ⊢;have ih:=usesF_shut hx f seen l ⟨hs.len,hs.le,fun q x h1 h2=>⟨(hs.shut q x h1 h2).1,fun p hp=>by
      rcases (hs.shut q x h1 h2).2 p hp with h3 | h3
      · exact .inl h3
      · rcases List.mem_append.1 h3 with h4 | h4
        · exact .inr h4
        · rw [List.mem_singleton] at h4;subst h4;exact .inl (by simpa using hk)⟩⟩ (fun q hq=>h0 q (by simp [hq])) h
     refine ⟨ih.1,ih.2.1,fun q hq=> ?_⟩;rcases List.mem_append.1 hq with h4 | h4
     · exact ih.2.2 q h4
     · rw [List.mem_singleton] at h4;subst h4;exact ih.2.1 k hk
   · cases hx2:m.exprs[k]? with
     | none=>
       rw [usesF,List.getLast?_concat] at h;simp [hk,hx2] at h
     | some x=>
       cases hu:useB m pr x
       · rw [usesF_no hk hx2 hu] at h;cases h
       · rw [usesF_yes hk hx2 hu] at h ⊢;have hkl:k < seen.length:=by
          rw [hs.len];exact (List.getElem?_eq_some_iff.1 hx2).1
         have hset: (seen.set k ((pr:Int)+1))[k]? =some ((pr:Int)+1):=by rw [List.getElem?_set_self hkl]
         have hkeep:∀q:Nat,seen[q]? =some ((pr:Int)+1)→ (seen.set k ((pr:Int)+1))[q]? =some ((pr:Int)+1):=fun q hq=>by
          by_cases e:k=q
          · subst e;exact hset
          · rw [List.getElem?_set_ne e];exact hq
         have ih:=usesF_shut hx f (seen.set k ((pr:Int)+1)) (l ++ partsL x) ⟨by rw [List.length_set];exact hs.len,fun v hv=>by
          rcases List.mem_or_eq_of_mem_set hv with h3 | h3
          · exact hs.le v h3
          · omega,fun q y h1 h2=>by
          by_cases e:k=q
          · subst e;rw [hx2] at h2;injection h2 with h2
            subst h2;exact ⟨hu,fun p hp=> .inr (List.mem_append_right _ hp)⟩
          · rw [List.getElem?_set_ne e] at h1;refine ⟨(hs.shut q y h1 h2).1,fun p hp=> ?_⟩;rcases (hs.shut q y h1 h2).2 p hp with h3 | h3
            · exact .inl (hkeep _ h3)
            · rcases List.mem_append.1 h3 with h4 | h4
              · exact .inr (List.mem_append_left _ h4)
              · rw [List.mem_singleton] at h4;subst h4;exact .inl (by simpa using hset)⟩ (fun q hq=>by
          rcases List.mem_append.1 hq with h4 | h4
          · exact h0 q (by simp [h4])
          · exact ((hx.ok _ _ hx2).2 q h4).1) h
         refine ⟨ih.1,fun q hq=>ih.2.1 q (hkeep q hq),fun q hq=> ?_⟩;rcases List.mem_append.1 hq with h4 | h4
         · exact ih.2.2 q (List.mem_append_left _ h4)
         · rw [List.mem_singleton] at h4;subst h4;exact ih.2.1 k hset
theorem usesF_yes_all {m:ModelD} (hx:EX m) {pr:Nat}:∀ (f:Nat) (seen left:List Int),seen.length=m.exprs.length→ (∀q ∈ left,0≤q)→left.all (okU m pr)=true→left.length+toGo m pr seen < f→ (usesF m pr f seen left).1=true
 | 0,_,_,_,_,_,h=>by omega
 | f+1,seen,left,hl,h0,ha,hf=>by
   rcases List.eq_nil_or_concat left with rfl | ⟨l,q,rfl⟩
   · rw [usesF_nil]
   have hq0:0≤q:=h0 q (by simp);obtain ⟨k,rfl⟩:∃k:Nat,q=k:=⟨q.toNat,by omega⟩;rw [List.concat_eq_append] at ha h0 hf ⊢;rw [List.all_append,Bool.and_eq_true] at ha;rw [List.length_append] at hf;simp only [List.length_cons,List.length_nil] at hf;by_cases hk:seen[k]? =some ((pr:Int)+1)
   · rw [usesF_seen hk];exact usesF_yes_all hx f seen l hl (fun q hq=>h0 q (by simp [hq])) ha.1 (by omega)
   · have hok:okU m pr k=true:=by simpa using ha.2
     cases hx2:m.exprs[k]? with
     | none=>
       unfold okU at hok;rw [usesD] at hok;simp [hx2] at hok
     | some x=>
       rw [ok_step hx hx2,Bool.and_eq_true] at hok;rw [usesF_yes hk hx2 hok.1];have hkl:k < seen.length:=by
        rw [hl];exact (List.getElem?_eq_some_iff.1 hx2).1
       have hs:=List.getElem?_eq_getElem hkl;have ht:=toGo_set (proc:=pr) hx2 hs (fun e=>hk (by rw [hs,e]));refine usesF_yes_all hx f _ _ (by rw [List.length_set];exact hl) (fun q hq=> ?_) ?_ ?_
       · rcases List.mem_append.1 hq with h4 | h4
         · exact h0 q (by simp [h4])
         · exact ((hx.ok _ _ hx2).2 q h4).1
       · rw [List.all_append,ha.1,hok.2];rfl
       · rw [List.length_append];omega
theorem usesL_is {m:ModelD} (hx:EX m) {pr:Nat} {seen:List Int} (hs:Shut m pr seen []) {q:Int} (hq:0≤q): (usesL m pr seen q).1=okU m pr q∧ ((usesL m pr seen q).1=true→Shut m pr (usesL m pr seen q).2 []):=by
 unfold usesL;have h1:=usesF_shut hx 70000 seen [q] ⟨hs.len,hs.le,fun a x h1 h2=>⟨(hs.shut a x h1 h2).1,fun p hp=>by
  rcases (hs.shut a x h1 h2).2 p hp with h3 | h3
  · exact .inl h3
  · cases h3⟩⟩ (fun a ha=>by rw [List.mem_singleton] at ha;omega)
 refine ⟨?_,fun h=>(h1 h).1⟩;rw [Bool.eq_iff_iff];constructor
 · intro h;obtain ⟨h2,-,h3⟩:=h1 h;have h4:=h2.ok hx _ (h3 q (by simp));rw [show ((q.toNat:Nat):Int)=q by omega] at h4;exact h4
 · intro h;refine usesF_yes_all hx 70000 seen [q] hs.len (fun a ha=>by rw [List.mem_singleton] at ha;omega) (by simp [h]) ?_;have:=toGo_le m pr seen;have:=hx.sum;simp only [List.length_cons,List.length_nil];omega
theorem stop_is {σ α:Type} (I:σ→Prop) (f:σ→α→Bool × σ) (P:α→Bool):∀ (l:List α) (s:σ),(∀x ∈ l,∀s,I s→ (f s x).1=P x∧ ((f s x).1=true→I (f s x).2))→I s→ (stopF f l s).1=l.all P∧ ((stopF f l s).1=true→I (stopF f l s).2)
 | [],s,_,hs=>⟨rfl,fun _=>hs⟩
 | x :: r,s,h,hs=>by
   obtain ⟨h1,h2⟩:=h x (by simp) s hs;unfold stopF;cases hx: (f s x).1
   · simp only [Bool.false_eq_true,if_false,List.all_cons];rw [←h1,hx];exact ⟨rfl,fun h=>by cases h⟩
   · simp only [if_true,List.all_cons];rw [←h1,hx,Bool.true_and];exact stop_is I f P r _ (fun y hy=>h y (by simp [hy])) (h2 hx)
end Go.Proofs.YtnoibjahliafpaaGreatDoor
namespace Go.Proofs.YtnoibjahliafpaaGreatDoor
open Go.ChangeShapes Go.WideShapes Go.ChangeAt Go.RowKit
section
variable {B B':Nat} {w:World} (hB:B≤B')
include hB
theorem Row.lift {α:Type} {o:Option Addr} {k:Nat} {R R':Nat→Nat→α→Prop} {l:List α} (h:Row B o k R l) (hR:∀g a x,g < B→R g a x→R' g a x):Row B' o k R' l:=(h.mono hR).up hB
theorem Sli.lift {α:Type} {g a k:Nat} {R R':Nat→Nat→α→Prop} {l:List α} (h:Sli B w g a k R l) (hR:∀g a x,g < B→R g a x→R' g a x):Sli B' w g a k R' l:=by
 obtain ⟨o,c,h1,h2⟩:=h;exact ⟨o,c,h1,h2.lift hB hR⟩
theorem varAt.lift {g a:Nat} {x:VarD} (h:varAt B w g a x):varAt B' w g a x:=⟨h.c0,h.c1,h.c2,h.c3,h.dims.lift hB fun _ _ _ _ h=>h⟩
theorem exprAt.lift {g a:Nat} {x:ExprD} (h:exprAt B w g a x):exprAt B' w g a x:=⟨h.c0,h.c1,h.c2,h.c3,h.c4,h.v.lift hB,h.args.lift hB fun _ _ _ _ h=>h,h.mat.lift hB fun _ _ _ _ h=>h⟩
theorem stmtAt.lift {g a:Nat} {x:StmtD} (h:stmtAt B w g a x):stmtAt B' w g a x:=⟨h.c0,h.c1,h.c2,h.c3,h.args.lift hB fun _ _ _ _ h=>h,h.mat.lift hB fun _ _ _ _ h=>h,h.c6⟩
theorem transAt.lift {g a:Nat} {x:TransD} (h:transAt B w g a x):transAt B' w g a x:=⟨h.s.lift hB,h.c7,h.c8⟩
theorem escAt.lift {g a:Nat} {x:List TransD} (h:escAt B w g a x):escAt B' w g a x:=Sli.lift hB h fun _ _ _ _ h=>h.lift hB
theorem locAt.lift {g a:Nat} {x:LocD} (h:locAt B w g a x):locAt B' w g a x:=⟨h.out.lift hB fun _ _ _ _ h=>h.lift hB,h.esc.lift hB fun _ _ _ _ h=>h.lift hB,h.c2,h.c3,h.c4,h.c5,h.c6⟩
theorem procAt.lift {g a:Nat} {x:ProcD} (h:procAt B w g a x):procAt B' w g a x:=⟨h.c0,h.c1,h.frame.lift hB fun _ _ _ _ h=>h,h.init.lift hB fun _ _ _ _ h=>h,h.locs.lift hB fun _ _ _ _ h=>h.lift hB,h.c5,h.c6,h.c7,h.c8,h.c9⟩
theorem shapeAt.lift {g a:Nat} {x:ShapeD} (h:shapeAt B w g a x):shapeAt B' w g a x:=⟨h.c0,h.fields.lift hB fun _ _ _ _ h=>h⟩
theorem MD.lift {h:MH} {m:ModelD} (hm:MD B w h m):MD B' w h m:=
 ⟨hm.globals.lift hB fun _ _ _ _ h=>h,hm.init.lift hB fun _ _ _ _ h=>h,hm.shapes.lift hB fun _ _ _ _ h=>h.lift hB,hm.chans.lift hB fun _ _ _ _ h=>h,hm.procs.lift hB fun _ _ _ _ h=>h.lift hB,hm.exprs.lift hB fun _ _ _ _ h=>h.lift hB⟩
end
end Go.Proofs.YtnoibjahliafpaaGreatDoor
namespace Go.Proofs.YtnoibjahliafpaaGreatDoor
open Go.ChangeShapes Go.WideShapes Go.ChangeAt Go.RowKit
structure Bq (w:World) (p:Nat) (cs:Array Value) (T:TypeId) (W:World):Prop where
 box:W.heap[p]? =some (.cells cs T (0,0))
 bel:Below w.heap.size w W
theorem Bq.below {w W W':World} {p:Nat} {cs:Array Value} {T:TypeId} (h:Bq w p cs T W) (hb:Below W.heap.size W W'):Bq w p cs T W':=⟨(hb.block _ (lt_of_block h.box)).trans h.box,h.bel.trans (hb.mono h.bel.size)⟩
theorem Bq.cell {w W:World} {p:Nat} {cs:Array Value} {T:TypeId} (h:Bq w p cs T W) {i:Nat} {v:Value} (hv:cs[i]? =some v):W.cell? ⟨p,i,none⟩=some v:=(cell_of_row _ _ _ _ _ _ h.box).trans hv
theorem Bq.new {w W:World} (h:Below w.heap.size w W) (cs:Array Value) (T:TypeId):Bq w W.heap.size cs T (W.alloc (.cells cs T)):=⟨heap_alloc_new W _,h.alloc h.size _⟩
structure Mx (w:World) (p:Nat) (CS:Array Value) (h:MH) (m:ModelD) (W:World):Prop where
 eq:CS=mCells h m
 bx:Bq w p CS 29 W
 md:MD w.heap.size W h m
section
variable {w W W':World} {p:Nat} {CS:Array Value} {h:MH} {m:ModelD}
theorem Mx.below (k:Mx w p CS h m W) (hb:Below W.heap.size W W'):Mx w p CS h m W':=⟨k.eq,k.bx.below hb,k.md.below (hb.mono k.bx.bel.size)⟩
theorem Mx.new (hd:MD w.heap.size w h m) (hC:CS=mCells h m):Mx w w.heap.size CS h m (w.alloc (.cells CS 29)):=⟨hC,Bq.new (Below.refl _ _) _ _,hd.below (ball _)⟩
theorem Mx.info (k:Mx w p CS h m W): (Tryz.prog.info? 29).map (·.size)=some CS.size:=by
 rw [k.eq];show _=some 7;kernel_rfl
theorem Mx.c0 (k:Mx w p CS h m W):W.cell? ⟨p,0,none⟩=some (.slice h.go m.globals.length h.gc):=k.bx.cell (by rw [k.eq];rfl)
theorem Mx.c1 (k:Mx w p CS h m W):W.cell? ⟨p,1,none⟩=some (.slice h.io m.init.length h.ic):=k.bx.cell (by rw [k.eq];rfl)
theorem Mx.c2 (k:Mx w p CS h m W):W.cell? ⟨p,2,none⟩=some (.slice h.so m.shapes.length h.sc):=k.bx.cell (by rw [k.eq];rfl)
theorem Mx.c3 (k:Mx w p CS h m W):W.cell? ⟨p,3,none⟩=some (.slice h.co m.chans.length h.cc):=k.bx.cell (by rw [k.eq];rfl)
theorem Mx.c4 (k:Mx w p CS h m W):W.cell? ⟨p,4,none⟩=some (.slice h.po m.procs.length h.pc):=k.bx.cell (by rw [k.eq];rfl)
theorem Mx.c5 (k:Mx w p CS h m W):W.cell? ⟨p,5,none⟩=some (.int .i64 m.claim):=k.bx.cell (by rw [k.eq];rfl)
theorem Mx.c6 (k:Mx w p CS h m W):W.cell? ⟨p,6,none⟩=some (.slice h.eo m.exprs.length h.ec):=k.bx.cell (by rw [k.eq];rfl)
theorem Mx.here (k:Mx w p CS h m W):MD W.heap.size W h m:=k.md.lift k.bx.bel.size
end
theorem belowH {B:Nat} (n:Int) (l:List Int) (o:Option Addr) (c:Nat) (w:World) (hr:Row B o 1 (intAt w) l):Calls Tryz.prog 103 #[.int .i64 n,.slice o l.length c] w fun e w'=>e= .returned (.bool (belowB n l))∧w=w':=by
 have HR:=Lib.hid hr;have hn:=hr.1;clear hr;go_enter Tryz.func103,Tryz.ntmps103;go_wp2
 go_loop [5] (fun i=>∃k:Nat,i= .int .i64 k∧k≤l.length∧Hid (∀j (hj:j < l.length),j < k→decide (0≤l[j]∧l[j] < n)=true)) (fun i=>l.length - (intOf i).toNat)
 case atStart=>exact ⟨0,rfl,by omega,Lib.hid fun j _ h=>by omega⟩
 case round=>
  obtain ⟨k,rfl,hk,HD⟩:=hrel;have hk0: (0:Int)≤k:=by omega
  by_cases hlt:k < l.length
  · have hlti: (k:Int) < l.length:=by omega
    obtain ⟨g,off,rfl,hg,e0⟩:=HR.out.cell hlt;obtain ⟨x,hx⟩:∃x,l[k]=x:=⟨_,rfl⟩;have c0:w.cell? ⟨g,off+k,none⟩=some (.int .i64 x):=by have:=e0;unfold intAt at this;rw [Nat.mul_one,hx] at this;exact this
    have HX:=Lib.hid hx;clear e0 hx;by_cases hb:0≤x∧x < n
    · have b1:¬x < 0:=by omega
      have b2:¬n≤x:=by omega
      have HK:Hid (∀j (hj:j < l.length),j < k+1→decide (0≤l[j]∧l[j] < n)=true):=Lib.hid fun j hj hjk=>by
       by_cases e:j=k
       · subst e;rw [HX.out];exact decide_eq_true hb
       · exact HD.out j hj (by omega)
      clear hb;go_wp2;go_round;case rel=>exact ⟨k+1,by go_num,by omega,HK⟩
      case measure=>simp [intOf];omega
    · have HF:Hid (belowB n l=false):=Lib.hid (all_bad hlt (by rw [HX.out];exact decide_eq_false hb));go_wp2
      all_goals first | (exfalso;omega) | (go_ret;exact ⟨retB HF.out.symm,rfl⟩)
  · have hlti:¬ (k:Int) < l.length:=by omega
    have HF:Hid (belowB n l=true):=Lib.hid (all_of fun j hj=>HD.out j hj (by omega));go_wp2;go_ret;exact ⟨retB HF.out.symm,rfl⟩
theorem below1 (n x:Int) (W:World):Calls Tryz.prog 103 #[.int .i64 n,.slice (some ⟨W.heap.size,0,none⟩) 1 1] (W.alloc (.cells #[.int .i64 x] 3)) fun e w'=>e= .returned (.bool (decide (0≤x∧x < n)))∧W.alloc (.cells #[.int .i64 x] 3)=w':=by
 have h:=belowH (B:=W.heap.size+1) n [x] (some ⟨W.heap.size,0,none⟩) 1 (W.alloc (.cells #[.int .i64 x] 3)) ⟨by simp,.inr ⟨W.heap.size,0,rfl,by omega,fun i hi=>by
  obtain rfl:i=0:=by simpa using hi
  exact (cell_of_row _ _ _ _ _ _ (heap_alloc_new W _)).trans rfl⟩⟩
 have e:belowB n [x]=decide (0≤x∧x < n):=by unfold belowB;simp
 rw [e] at h;exact h
theorem partsH (op:Int) (hop:1≤op∧op≤39) (w:World):Calls Tryz.prog 102 #[.int .i64 op] w fun e w'=>e= .returned (.int .i64 (partsOf op))∧w=w':=by
 go_enter Tryz.func102,Tryz.ntmps102;go_wp2
 all_goals (go_ret;refine ⟨retI ?_,rfl⟩)
 all_goals (unfold partsOf;repeat' split)
 all_goals first | rfl | omega | (exfalso;simp only [beq_iff_eq,beq_eq_false_iff_ne,ne_eq] at*;omega)
theorem proctypeH {h:MH} {m:ModelD} (n:Int) (w:World) (hd:MD w.heap.size w h m):Calls Tryz.prog 104 #[mV h m,.int .i64 n] w fun e w'=>e= .returned (.bool (ptypeB m n))∧Below w.heap.size w w':=by
 obtain ⟨CS,hCS⟩:∃c,c=mCells h m:=⟨_,rfl⟩;have HX:=Lib.hid (Mx.new hd hCS);have c4:=HX.out.c4;have c5:=HX.out.c5;have hl:=hd.procs.1;unfold mV;rw [←hCS];clear hd hCS;go_enter Tryz.func104,Tryz.ntmps104;go_wp2
 all_goals (go_ret;refine ⟨retB ?_,HX.out.bx.bel⟩)
 all_goals (unfold ptypeB;rw [Bool.eq_iff_iff];simp_all)
 all_goals omega
theorem targetH {h:MH} {m:ModelD} (n:Int) (w:World) (hd:MD w.heap.size w h m):Calls Tryz.prog 125 #[mV h m,.int .i64 n] w fun e w'=>e= .returned (.bool (settableB m n))∧Below w.heap.size w w':=by
 obtain ⟨CS,hCS⟩:∃c,c=mCells h m:=⟨_,rfl⟩;have HX:=Lib.hid (Mx.new hd hCS);have c6:=HX.out.c6;have hl:=hd.exprs.1;have HD:=Lib.hid hd;unfold mV;rw [←hCS];clear hd hCS;by_cases hn:0≤n∧n < m.exprs.length
 · obtain ⟨k,rfl⟩:∃k:Nat,n=k:=⟨n.toNat,by omega⟩;have hk:k < m.exprs.length:=by omega
   obtain ⟨g,off,ho,hg,he⟩:=HD.out.exprs.cell hk;have HE:=Lib.hid (he.below (ball (.cells CS 29)) hg);obtain ⟨op,hop⟩:∃op,m.exprs[k].op=op:=⟨_,rfl⟩;obtain ⟨sc,hsc⟩:∃sc,m.exprs[k].v.scope=sc:=⟨_,rfl⟩;have d0:=HE.out.c0;have d5:=HE.out.v.c0;rw [hop] at d0;rw [hsc] at d5;rw [ho] at c6;have HV:Hid (settableB m (k:Int)= (decide (op=2) && decide (sc≠2))):=Lib.hid (by
    unfold settableB isVarB;have e1:isExprB m (k:Int)=true:=by unfold isExprB;simpa using hn
    have e2:opAt m (k:Int)=op:=by unfold opAt;simp [hk,hop]
    have e3:scopeAt m (k:Int)=sc:=by unfold scopeAt;simp [hk,hsc]
    rw [e1,e2,e3];simp)
   have h1: (k:Int) < m.exprs.length:=by omega
   have h0: (0:Int)≤k:=by omega
   clear hn he hg hop hsc ho;go_enter Tryz.func125,Tryz.ntmps125;go_wp2
   all_goals (go_ret;refine ⟨retB (Eq.trans ?_ HV.out.symm),HX.out.bx.bel⟩)
   all_goals (rw [Bool.eq_iff_iff];simp_all)
 · have HV:Hid (settableB m n=false):=Lib.hid (by unfold settableB isVarB isExprB;rw [decide_eq_false hn];rfl);by_cases h0:0≤n
   · have h1:¬n < m.exprs.length:=by omega
     clear hn;go_enter Tryz.func125,Tryz.ntmps125;go_wp2
     all_goals (go_ret;exact ⟨retB HV.out.symm,HX.out.bx.bel⟩)
   · clear hn;go_enter Tryz.func125,Tryz.ntmps125;go_wp2
     all_goals (go_ret;exact ⟨retB HV.out.symm,HX.out.bx.bel⟩)
set_option maxRecDepth 100000 in
theorem roomH {h:MH} {m:ModelD} (pr:Nat) (v:VarD) (o:Option Addr) (cap:Nat) (w:World) (hd:MD w.heap.size w h m) (hsc:0≤v.scope∧v.scope≤2) (h1:v.scope=1→pr < m.procs.length) (h2:v.scope=2→0≤v.type∧v.type < m.procs.length):
 Calls Tryz.prog 109 #[mV h m,.int .i64 pr,.agg #[.int .i64 v.scope,.int .i64 v.slot,.int .i64 v.who,.int .i64 v.type,.slice o v.dims.length cap]] w fun e w'=>e= .returned (.int .i64 (roomL m pr v))∧Below w.heap.size w w':=by
 obtain ⟨CS,hCS⟩:∃c,c=mCells h m:=⟨_,rfl⟩;obtain ⟨sc,sl,wh,ty,dims⟩:=v;simp only at hsc h1 h2 ⊢;have HX:=Lib.hid ((Mx.new hd hCS).below (ball (.cells #[.int .i64 sc,.int .i64 sl,.int .i64 wh,.int .i64 ty,.slice o dims.length cap] 145)));have c0:=HX.out.c0;have c4:=HX.out.c4;have l1:=hd.globals.1;have l2:=hd.procs.1;have HD:=Lib.hid hd;unfold mV;rw [←hCS];clear hd hCS;by_cases e0:sc=0
 · subst e0;have HV:Hid (roomL m pr ⟨0,sl,wh,ty,dims⟩= (m.globals.length:Int)):=Lib.hid rfl;go_enter Tryz.func109,Tryz.ntmps109;go_wp2;go_ret;exact ⟨retI HV.out.symm,HX.out.bx.bel⟩
 by_cases e1:sc=1
 · subst e1;have hp:=h1 rfl;obtain ⟨g,off,ho,hg,he⟩:=HX.out.md.procs.cell hp;obtain ⟨o3,q3,f0,f1⟩:=he.frame;rw [ho] at c4;have hpi: (pr:Int) < m.procs.length:=by omega
   have HV:Hid (roomL m pr ⟨1,sl,wh,ty,dims⟩= (m.procs[pr].frame.length:Int)):=Lib.hid (by unfold roomL frameAt;simp [hp]);have l3:=f1.1;clear he ho hg f1;go_enter Tryz.func109,Tryz.ntmps109;go_wp2;go_ret;exact ⟨retI HV.out.symm,HX.out.bx.bel⟩
 · obtain rfl:sc=2:=by omega
   obtain ⟨t0,t1⟩:=h2 rfl;obtain ⟨k,rfl⟩:∃k:Nat,ty=k:=⟨ty.toNat,by omega⟩;have hk:k < m.procs.length:=by omega
   obtain ⟨g,off,ho,hg,he⟩:=HX.out.md.procs.cell hk;obtain ⟨o3,q3,f0,f1⟩:=he.frame;rw [ho] at c4;have HV:Hid (roomL m pr ⟨2,sl,wh,k,dims⟩= (m.procs[k].frame.length:Int)):=Lib.hid (by unfold roomL frameAt;simp [hk]);have l3:=f1.1;clear he ho hg f1 e0 e1;go_enter Tryz.func109,Tryz.ntmps109;go_wp2;go_ret;exact ⟨retI HV.out.symm,HX.out.bx.bel⟩
end Go.Proofs.YtnoibjahliafpaaGreatDoor
namespace Go.Proofs.YtnoibjahliafpaaGreatDoor
open Go.ChangeShapes Go.WideShapes Go.ChangeAt Go.RowKit
theorem zip_getH {α β:Type} {a:List α} {b:List β} {k:Nat} (h1:k < a.length) (h2:k < b.length):∃h:k < (a.zip b).length,(a.zip b)[k]= (a[k],b[k]):=⟨by rw [List.length_zip];omega,List.getElem_zip⟩
def typedF (t:List (Int × Bool)) (v:List Int):Int:=match bad fitZ (t.zip v) with
 | some i=>(i:Int)
 | none=> -1
set_option maxRecDepth 100000 in
set_option maxHeartbeats 1000000 in
theorem typedH {B:Nat} (t:List (Int × Bool)) (v:List Int) (o1 o2:Option Addr) (c1 c2:Nat) (w:World) (hB:B≤w.heap.size) (h1:Row B o1 2 (tyAt w) t) (h2:Row B o2 1 (intAt w) v) (hl:v.length=t.length):
 Calls Tryz.prog 80 #[.slice o1 t.length c1,.slice o2 v.length c2] w fun e w'=>e= .returned (.int .i64 (typedF t v))∧Below w.heap.size w w':=by
 have H1:=Lib.hid h1;have H2:=Lib.hid h2;have HL:=Lib.hid hl;have HBB:=Lib.hid hB;have n1:=h1.1;have n2:=h2.1;have HB0:Hid (Below w.heap.size w w):=Lib.hid (Below.refl _ _);clear h1 h2 hl hB;go_enter Tryz.func80,Tryz.ntmps80;go_wp2_with fail
 go_loopw [5] (fun i wr=>∃k:Nat,i= .int .i64 k∧k≤t.length∧Hid (∀j (hj:j < (t.zip v).length),j < k→fitZ (t.zip v)[j]=true)∧Hid (Below w.heap.size w wr)) (fun i _=>t.length - (intOf i).toNat)
 case atStart=>exact ⟨0,rfl,by omega,Lib.hid fun j _ h=>by omega,HB0⟩
 case round=>
  clear HB0;obtain ⟨k,rfl,hk,HJ,HB⟩:=hrel;have hk0: (0:Int)≤k:=by omega
  by_cases hlt:k < t.length
  · have hlti: (k:Int) < t.length:=by omega
    have hlt2:k < v.length:=by have:=HL.out;omega
    have hlti2: (k:Int) < v.length:=by omega
    obtain ⟨g,off,hog,hg,t0,t1⟩:=(H1.out.mono fun _ _ _ hg=>tyAt.below (HB.out.mono HBB.out) hg).cell hlt;obtain ⟨g2,off2,hog2,hg2,e2⟩:=(H2.out.mono fun _ _ _ hg=>intAt.below (HB.out.mono HBB.out) hg).cell hlt2;subst hog hog2;obtain ⟨hz,hzip⟩:=zip_getH hlt hlt2;obtain ⟨⟨b,sg⟩,hbs⟩:∃x,t[k]=x:=⟨_,rfl⟩;obtain ⟨x,hx⟩:∃x,v[k]=x:=⟨_,rfl⟩;rw [hbs] at t0 t1 hzip;rw [hx] at hzip;have HBAD:Hid (fitB b sg x=false→typedF t v= (k:Int)):=Lib.hid fun h=>by
     unfold typedF;rw [bad_some hz (by rw [hzip];exact h) (fun j hj hjk=>HJ.out j hj hjk)]
    have HGO:Hid (fitB b sg x=true→∀j (hj:j < (t.zip v).length),j < k+1→fitZ (t.zip v)[j]=true):=Lib.hid fun h j hj hjk=>by
     by_cases e:j=k
     · subst e;rw [hzip];exact h
     · exact HJ.out j hj (by omega)
    have e3:wr.cell? ⟨g2,off2+k,none⟩=some (.int .i64 x):=by
     have:=e2;unfold intAt at this;rw [Nat.mul_one,hx] at this;exact this
    simp only at t0 t1;clear hbs hx e2 hz hzip hg hg2;go_wp2_with fail;go_still_tail 8,(by kernel_rfl);change wpList _ _ _ _ _ wr.drew;have HWD:Hid (Below w.heap.size w wr.drew):=Lib.hid HB.out.drew;generalize wr.drew=W2 at HWD ⊢;clear t0 t1 e3;go_wp2_with fail;refine (fitsH b sg x W2).mono ?_;rintro e W3 ⟨rfl,hb3⟩;have HW3:=Lib.hid (HWD.out.trans (hb3.mono HWD.out.size));clear hb3;obtain ⟨u,hu⟩:∃u,fitB b sg x=u:=⟨_,rfl⟩;rw [hu];have HU:=Lib.hid hu;clear hu;cases u
    · have HZ:=Lib.hid (HBAD.out HU.out);go_wp2_with fail;go_ret;exact ⟨retI HZ.out.symm,HW3.out⟩
    · have HZ:=Lib.hid (HGO.out HU.out);go_wp2_with fail;go_roundw;case rel=>exact ⟨k+1,by go_num,by omega,HZ,HW3⟩
      case measure=>simp [intOf];omega
  · have hlti:¬ (k:Int) < t.length:=by omega
    have HZ:Hid (typedF t v= -1):=Lib.hid (by unfold typedF;rw [bad_none fun j hj=>HJ.out j hj (by rw [List.length_zip] at hj;omega)]);go_wp2_with fail;go_ret;exact ⟨retI HZ.out.symm,HB.out⟩
theorem typed_neg {t:List (Int × Bool)} {v:List Int} (h:typedF t v < 0): (t.zip v).all fitZ=true:=by
 unfold typedF at h;split at h
 · omega
 · rename_i hb
   rw [List.all_eq_true];exact bad_all hb
theorem typed_pos {t:List (Int × Bool)} {v:List Int} (h:0≤typedF t v): (t.zip v).all fitZ=false∧idxB (bad fitZ (t.zip v))= (typedF t v,false):=by
 unfold typedF at h ⊢;cases hb:bad fitZ (t.zip v) with
 | none=>rw [hb] at h;simp at h
 | some i=>
   refine ⟨?_,rfl⟩;unfold bad at hb;rw [List.findIdx?_eq_some_iff_getElem] at hb;obtain ⟨hi,h1,-⟩:=hb;exact all_bad hi (by simpa using h1)
set_option maxRecDepth 100000 in
set_option maxHeartbeats 1000000 in
theorem shapeH {B:Nat} (s:ShapeD) (o:Option Addr) (c:Nat) (w:World) (hB:B≤w.heap.size) (h1:Row B o 2 (tyAt w) s.fields):
 Calls Tryz.prog 81 #[.agg #[.int .i64 s.room,.slice o s.fields.length c]] w fun e w'=>e= .returned (.bool (shapeB s))∧Below w.heap.size w w':=by
 have H1:=Lib.hid h1;have HBB:=Lib.hid hB;have n1:=h1.1;clear h1 hB;obtain ⟨ro,fl⟩:=s;simp only at H1 n1 ⊢;have HX:=Lib.hid (Bx.new w #[.int .i64 ro,.slice o fl.length c] 102);by_cases hbad:ro < 0∨16 < ro∨fl.length < 1∨8 < fl.length
 · have HV:Hid (shapeB ⟨ro,fl⟩=false):=Lib.hid (by unfold shapeB;rw [decide_eq_true (by exact hbad)];rfl);go_enter Tryz.func81,Tryz.ntmps81;go_wp2
   all_goals first | (exfalso;omega) | (go_ret;exact ⟨retB HV.out.symm,HX.out.bel⟩)
 · have HV:Hid (shapeB ⟨ro,fl⟩=fl.all tyP):=Lib.hid (by unfold shapeB;rw [decide_eq_false (by exact hbad)];rfl);have i1:¬ro < 0:=fun h=>hbad (.inl h)
   have i2:¬16 < ro:=fun h=>hbad (.inr (.inl h))
   have i3:¬fl.length < 1:=fun h=>hbad (.inr (.inr (.inl h)))
   have i4:¬8 < fl.length:=fun h=>hbad (.inr (.inr (.inr h)))
   clear hbad;go_enter Tryz.func81,Tryz.ntmps81;go_wp2_with fail
   go_loopw [3] (fun i wr=>∃k:Nat,i= .int .i64 k∧k≤fl.length∧Hid (∀j (hj:j < fl.length),j < k→tyP fl[j]=true)∧Hid (Bx w #[.int .i64 ro,.slice o fl.length c] 102 wr)) (fun i _=>fl.length - (intOf i).toNat)
   case atStart=>exact ⟨0,rfl,by omega,Lib.hid fun j _ h=>by omega,HX⟩
   case round=>
    clear HX;obtain ⟨k,rfl,hk,HJ,HX⟩:=hrel;have hk0: (0:Int)≤k:=by omega
    have x1:wr.cell? ⟨w.heap.size,1,none⟩=some (.slice o fl.length c):=HX.out.cell rfl;by_cases hlt:k < fl.length
    · have hlti: (k:Int) < fl.length:=by omega
      obtain ⟨g,off,hog,hg,t0,t1⟩:=(H1.out.mono fun _ _ _ hg=>tyAt.below (HX.out.bel.mono HBB.out) hg).cell hlt;subst hog;obtain ⟨⟨b,sg⟩,hbs⟩:∃x,fl[k]=x:=⟨_,rfl⟩;rw [hbs] at t0 t1;have HBAD:Hid (tyB b sg=false→shapeB ⟨ro,fl⟩=false):=Lib.hid fun h=>by rw [HV.out,all_bad hlt (by rw [hbs];exact h)]
      have HGO:Hid (tyB b sg=true→∀j (hj:j < fl.length),j < k+1→tyP fl[j]=true):=Lib.hid fun h j hj hjk=>by
       by_cases e:j=k
       · subst e;rw [hbs];exact h
       · exact HJ.out j hj (by omega)
      simp only at t0 t1;clear hbs hg;go_wp2_with fail;refine (typeH b sg wr).mono ?_;rintro e W3 ⟨rfl,hb3⟩;have HX3:=Lib.hid (HX.out.below hb3);clear hb3 t0 t1 x1;obtain ⟨u,hu⟩:∃u,tyB b sg=u:=⟨_,rfl⟩;rw [hu];have HU:=Lib.hid hu;clear hu;cases u
      · have HZ:=Lib.hid (HBAD.out HU.out);go_wp2_with fail;go_ret;exact ⟨retB HZ.out.symm,HX3.out.bel⟩
      · have HZ:=Lib.hid (HGO.out HU.out);go_wp2_with fail;go_roundw;case rel=>exact ⟨k+1,by go_num,by omega,HZ,HX3⟩
        case measure=>simp [intOf];omega
    · have hlti:¬ (k:Int) < fl.length:=by omega
      have HZ:Hid (shapeB ⟨ro,fl⟩=true):=Lib.hid (by rw [HV.out];exact all_of fun j hj=>HJ.out j hj (by omega));go_wp2_with fail;go_ret;exact ⟨retB HZ.out.symm,HX.out.bel⟩
end Go.Proofs.YtnoibjahliafpaaGreatDoor
