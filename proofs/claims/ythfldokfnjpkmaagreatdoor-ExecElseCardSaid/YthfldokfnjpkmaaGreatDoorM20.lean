/- The document's answer to which models may be run, as functions of data near its words; and that they are the program's. -/
import Derived.Test.YthfldokfnjpkmaaGreatDoorM03
import Derived.Test.YthfldokfnjpkmaaGreatDoorM01
set_option linter.unusedVariables false
set_option linter.unusedSimpArgs false
namespace Go.Proofs.YthfldokfnjpkmaaGreatDoor
def belowB (n:Int) (l:List Int):Bool:=l.all (fun q=>decide (0≤q∧q < n))
def ddimB (n:Int) (d:DimD):Bool:=decide (0≤d.i∧d.i < n) && dimB d
def dvtB (m:ModelD) (n:Int) (v:VarD):Bool:=if v.scope=2 then decide (0≤v.who∧v.who < n) && ptypeB m v.type else decide (v.who= -1∧v.type= -1)
def dvarB (m:ModelD) (n:Int) (v:VarD):Bool:=varHeadB v && dvtB m n v && v.dims.all (ddimB n)
def dfieldB (m:ModelD) (x:Int × Int):Bool:=decide (-1≤x.2∧x.2≤1) && (!(decide (x.2=0)) || decide (opAt m x.1=2))
def dmatB (m:ModelD) (n:Int) (args mat:List Int):Bool:=belowB n args && decide (1≤args.length∧args.length≤8∧mat.length=args.length) && (args.zip mat).all (dfieldB m)
def dpartB (n:Int) (k:Nat) (x:Int × Nat):Bool:=if x.2 < k then decide (0≤x.1∧x.1 < n) else decide (x.1= -1)
def dheadB (n:Int) (x:ExprD):Bool:=(abcL x).zipIdx.all (dpartB n (partsOf x.op))
def dkindB (m:ModelD) (n:Int) (x:ExprD):Bool:=
 if x.op=1 then decide (-2147483648≤x.n∧x.n≤2147483647) else if x.op=2 then dvarB m n x.v else if x.op=30 then dmatB m n x.args x.mat && decide (x.n=0∨x.n=1)
 else if x.op=38 then ptypeB m x.n && decide (1≤x.args.length) && belowB (locsAt m x.n) x.args else if x.op=39 then ptypeB m x.n && belowB n x.args && decide ((x.args.length:Int)=paramsAt m x.n) else true
def dexprB (m:ModelD) (n:Int) (x:ExprD):Bool:=decide (1≤x.op∧x.op≤39) && dheadB n x && dkindB m n x
theorem below_mono {n k:Int} {l:List Int} (h:belowB n l=true) (hk:n≤k):belowB k l=true:=by
 unfold belowB at h ⊢;rw [List.all_eq_true] at h ⊢;intro q hq;have:=h q hq;simp only [decide_eq_true_eq] at this ⊢;omega
theorem below_app {n:Int} {a b:List Int}:belowB n (a ++ b)= (belowB n a && belowB n b):=by unfold belowB;rw [List.all_append]
theorem ptypeB_of {m:ModelD} {n:Int}:ptypeB m n=true↔0≤n∧n < m.procs.length∧n≠m.claim:=by unfold ptypeB;rw [decide_eq_true_eq]
theorem head_is (n:Int) (x:ExprD):dheadB n x= (restB x && belowB n ((abcL x).take (partsOf x.op))):=by
 unfold dheadB restB belowB abcL dpartB;have h:partsOf x.op=0∨partsOf x.op=1∨partsOf x.op=2∨partsOf x.op=3:=by
  unfold partsOf
  repeat' split
  all_goals simp
 rcases h with h | h | h | h <;> rw [h] <;> rw [Bool.eq_iff_iff] <;> simp [List.zipIdx] <;> (try omega)
theorem var_is (m:ModelD) (n:Int) (v:VarD):dvarB m n v= (varB m v && belowB n ((if v.scope=2 then [v.who] else []) ++ v.dims.map (·.i))):=by
 unfold dvarB dvtB varB varTailB ddimB;rw [below_app];have e:v.dims.all (fun d=>decide (0≤d.i∧d.i < n) && dimB d)= (belowB n (v.dims.map (·.i)) && v.dims.all dimB):=by
  unfold belowB
  induction v.dims with
  | nil=>rfl
  | cons d r ih=>
    simp only [List.all_cons,List.map_cons,ih];cases decide (0≤d.i∧d.i < n) <;> cases dimB d <;> cases (List.map (fun x=>x.i) r).all (fun q=>decide (0≤q∧q < n)) <;> rfl
 rw [e];by_cases h:v.scope=2
 · simp only [if_pos h];have e2:belowB n [v.who]=decide (0≤v.who∧v.who < n):=by unfold belowB;simp
   rw [e2];cases varHeadB v <;> cases decide (0≤v.who∧v.who < n) <;> cases ptypeB m v.type <;> cases belowB n (v.dims.map (·.i)) <;> cases v.dims.all dimB <;> rfl
 · simp only [if_neg h];have e2:belowB n []=true:=rfl;rw [e2];cases varHeadB v <;> cases decide (v.who= -1∧v.type= -1) <;> cases belowB n (v.dims.map (·.i)) <;> cases v.dims.all dimB <;> rfl
theorem zip_all {m:ModelD} {n:Int} (hn:n≤m.exprs.length):∀ (args mat:List Int),mat.length=args.length→belowB n args=true→ (args.zip mat).all (dfieldB m)= (args.zip mat).all (fieldB m)
 | [],_,_,_=>rfl
 | a :: r,[],h,_=>by simp at h
 | a :: r,q :: s,h,hb=>by
   have hb': (0≤a∧a < n)∧belowB n r=true:=by
    unfold belowB at hb ⊢;simpa using hb
   simp only [List.zip_cons_cons,List.all_cons,zip_all hn r s (by simpa using h) hb'.2];congr 1;unfold dfieldB fieldB isVarB;have e:isExprB m a=true:=by unfold isExprB;rw [decide_eq_true_eq];omega
   simp only [e,Bool.true_and]
theorem mat_is {m:ModelD} {n:Int} (hn:n≤m.exprs.length) (args mat:List Int):dmatB m n args mat= (fieldsB m args mat && belowB n args):=by
 unfold dmatB fieldsB;cases hb:belowB n args
 · simp
 · by_cases h:1≤args.length∧args.length≤8∧mat.length=args.length
   · rw [decide_eq_true h,decide_eq_false (by omega),zip_all hn args mat h.2.2 hb];simp
   · rw [decide_eq_false h,decide_eq_true (by omega)];simp
theorem fit32 (v:Int):fitB 32 true v=decide (-2147483648≤v∧v≤2147483647):=by
 have e:fitB 32 true v= (decide (-2147483648≤v) && decide (v < 2147483648)):=by unfold fitB;rfl
 rw [e,Bool.eq_iff_iff];simp;omega
theorem kind_is {m:ModelD} {n:Int} (hn:n≤m.exprs.length) (x:ExprD):dkindB m n x= (kindB m x && belowB n (moreL x)):=by
 unfold dkindB kindB moreL;by_cases h1:x.op=1
 · simp [h1,fit32,belowB]
 by_cases h2:x.op=2
 · simp only [if_neg h1,if_pos h2];exact var_is m n x.v
 by_cases h3:x.op=30
 · simp only [if_neg h1,if_neg h2,if_pos h3,if_pos (Or.inl h3:x.op=30∨x.op=39)];rw [mat_is hn];cases fieldsB m x.args x.mat <;> cases belowB n x.args <;> cases decide (x.n=0∨x.n=1) <;> rfl
 by_cases h4:x.op=38
 · have h5:¬ (x.op=30∨x.op=39):=by omega
   simp only [if_neg h1,if_neg h2,if_neg h3,if_pos h4,if_neg h5];have e2:belowB n []=true:=rfl;rw [e2];unfold atB belowB;have e3:decide (1≤x.args.length)= !(decide (x.args.length=0)):=by
    rw [Bool.eq_iff_iff];simp only [decide_eq_true_eq,Bool.not_eq_true',decide_eq_false_iff_not];omega
   rw [e3];cases ptypeB m x.n <;> cases decide (x.args.length=0) <;> cases x.args.all (fun q=>decide (0≤q∧q < locsAt m x.n)) <;> rfl
 by_cases h6:x.op=39
 · simp only [if_neg h1,if_neg h2,if_neg h3,if_neg h4,if_pos h6,if_pos (Or.inr h6:x.op=30∨x.op=39)];cases ptypeB m x.n <;> cases belowB n x.args <;> cases decide ((x.args.length:Int)=paramsAt m x.n) <;> rfl
 · have h5:¬ (x.op=30∨x.op=39):=by omega
   simp only [if_neg h1,if_neg h2,if_neg h3,if_neg h4,if_neg h6,if_neg h5];rfl
theorem expr_is {m:ModelD} {n:Int} (hn:n≤m.exprs.length) (x:ExprD):dexprB m n x= (exprB m x && belowB n (partsL x)):=by
 unfold dexprB exprB partsL;rw [head_is,kind_is hn,below_app];cases decide (1≤x.op∧x.op≤39) <;> cases restB x <;> cases kindB m x <;> cases belowB n ((abcL x).take (partsOf x.op)) <;> cases belowB n (moreL x) <;> rfl
theorem take_no {i:Nat}:∀ (l:List Int) (s:List Bool),(l.foldl (takePart i) (s,false)).2=false
 | [],s=>rfl
 | p :: r,s=>by
   rw [List.foldl_cons];unfold takePart;split
   · exact take_no r s
   · exact take_no r _
theorem take_bad {i:Nat} {l:List Int} {s:List Bool × Bool} (h:s.2=false): (l.foldl (takePart i) s).2=false:=by
 obtain ⟨a,b⟩:=s;simp only at h;subst h;exact take_no l a
theorem take_below {i:Nat}:∀ (l:List Int) (s:List Bool × Bool),(l.foldl (takePart i) s).2=true→belowB i l=true
 | [],s,_=>rfl
 | p :: r,s,h=>by
   rw [List.foldl_cons] at h;have h1:=take_below r _ h;unfold belowB at h1 ⊢;rw [List.all_cons,h1,Bool.and_true,decide_eq_true_eq];cases h2: (takePart i s p).2
   · rw [take_bad h2] at h;cases h
   · unfold takePart at h2;split at h2
     · cases h2
     · omega
def duseB (m:ModelD) (pr:Nat) (x:ExprD) (run:Bool):Bool:=
 !(decide (x.op=39) && !run) && !(decide ((pr:Int)=m.claim) && decide (x.op=31∨x.op=39∨ (x.op=2∧x.v.scope=1))) && !(decide (x.op=2∧roomL m pr x.v < reachL x.v))
def usesD (m:ModelD) (pr:Nat):Nat→Int→Bool→Bool
 | 0,_,_=>false
 | f+1,k,run=>match m.exprs[k.toNat]? with
   | none=>false
   | some x=>duseB m pr x run && (partsL x).all (fun q=>usesD m pr f q false)
theorem uses_more {m:ModelD} (hx:EX m) {pr:Nat}:∀ (f:Nat) (k:Int) (run:Bool),k.toNat < f→usesD m pr f k run=usesD m pr (k.toNat+1) k run
 | 0,k,run,h=>by omega
 | f+1,k,run,h=>by
   rw [usesD,usesD];cases hk:m.exprs[k.toNat]? with
   | none=>rfl
   | some x=>
     simp only;congr 1;rw [Bool.eq_iff_iff,List.all_eq_true,List.all_eq_true];refine forall_congr' fun q=>forall_congr' fun hq=> ?_
     have h1:=(hx.ok _ _ hk).2 q hq;rw [uses_more hx f q false (by omega),uses_more hx k.toNat q false (by omega)]
termination_by f=>f
def okU (m:ModelD) (pr:Nat) (k:Int):Bool:=usesD m pr (k.toNat+1) k false
theorem use_is (m:ModelD) (pr:Nat) (x:ExprD):duseB m pr x false=useB m pr x:=by
 unfold duseB useB liesB;by_cases h1:x.op=39
 · simp [h1]
 by_cases h2:x.op=31
 · simp [h1,h2]
 by_cases h3:x.op=2
 · simp [h1,h2,h3];by_cases h4:x.v.scope=1 <;> by_cases h5: (pr:Int)=m.claim <;> simp [h4,h5]
   all_goals rw [Bool.eq_iff_iff];simp
 · simp [h1,h2,h3]
theorem ok_step {m:ModelD} (hx:EX m) {pr:Nat} {k:Nat} {x:ExprD} (h:m.exprs[k]? =some x):okU m pr k= (useB m pr x && (partsL x).all (okU m pr)):=by
 unfold okU;rw [usesD];simp only [Int.toNat_natCast,h,use_is];congr 1;rw [Bool.eq_iff_iff,List.all_eq_true,List.all_eq_true];refine forall_congr' fun q=>forall_congr' fun hq=> ?_
 have h1:=(hx.ok _ _ h).2 q hq;rw [uses_more hx k q false (by omega)]
structure Shut (m:ModelD) (pr:Nat) (seen left:List Int):Prop where
 len:seen.length=m.exprs.length
 le:∀v ∈ seen,v≤ (pr:Int)+1
 shut:∀ (q:Nat) (x:ExprD),seen[q]? =some ((pr:Int)+1)→m.exprs[q]? =some x→useB m pr x=true∧∀p ∈ partsL x,seen[p.toNat]? =some ((pr:Int)+1)∨p ∈ left
theorem Shut.ok {m:ModelD} (hx:EX m) {pr:Nat} {seen:List Int} (h:Shut m pr seen []):∀ (q:Nat),seen[q]? =some ((pr:Int)+1)→okU m pr q=true
 | q,hq=>by
   have hl:q < m.exprs.length:=by
    obtain ⟨h1,-⟩:=List.getElem?_eq_some_iff.1 hq;rw [←h.len];exact h1
   have he:=List.getElem?_eq_getElem hl;rw [ok_step hx he];obtain ⟨h1,h2⟩:=h.shut q _ hq he;rw [h1,Bool.true_and,List.all_eq_true];intro p hp;have hb:=(hx.ok _ _ he).2 p hp;rcases h2 p hp with h3 | h3
   · have e:p= (p.toNat:Int):=by omega
     rw [e];exact Shut.ok hx h p.toNat h3
   · cases h3
termination_by q=>q
decreasing_by omega
theorem usesF_shut {m:ModelD} (hx:EX m) {pr:Nat}:∀ (f:Nat) (seen left:List Int),Shut m pr seen left→ (∀q ∈ left,0≤q)→ (usesF m pr f seen left).1=true→
 Shut m pr (usesF m pr f seen left).2 []∧ (∀q:Nat,seen[q]? =some ((pr:Int)+1)→ (usesF m pr f seen left).2[q]? =some ((pr:Int)+1))∧∀q ∈ left,(usesF m pr f seen left).2[q.toNat]? =some ((pr:Int)+1)
 | 0,seen,left,_,_,h=>by simp [usesF] at h
 | f+1,seen,left,hs,h0,h=>by
   rcases List.eq_nil_or_concat left with rfl | ⟨l,q,rfl⟩
   · rw [usesF_nil];exact ⟨hs,fun _ h=>h,fun q hq=>by cases hq⟩
   have hq0:0≤q:=h0 q (by simp);obtain ⟨k,rfl⟩:∃k:Nat,q=k:=⟨q.toNat,by omega⟩;rw [List.concat_eq_append] at hs h h0 ⊢;by_cases hk:seen[k]? =some ((pr:Int)+1)
   · rw [usesF_seen hk] at h ⊢;have ih:=usesF_shut hx f seen l ⟨hs.len,hs.le,fun q x h1 h2=>⟨(hs.shut q x h1 h2).1,fun p hp=>by
      rcases (hs.shut q x h1 h2).2 p hp with h3 | h3
      · exact .inl h3
      · rcases List.mem_append.1 h3 with h4 | h4
        · exact .inr h4
        · rw [List.mem_singleton] at h4;subst h4;exact .inl (by simpa using hk)⟩⟩ (fun q hq=>h0 q (by simp [hq])) h
     refine ⟨ih.1,ih.2.1,fun q hq=> ?_⟩;rcases List.mem_append.1 hq with h4 | h4
     · exact ih.2.2 q h4
     · rw [List.mem_singleton] at h4;subst h4;exact ih.2.1 k hk
   · cases hx2:m.exprs[k]? with
     | none=>
       rw [usesF,List.getLast?_concat] at h;simp [hk,hx2] at h
     | some x=>
       cases hu:useB m pr x
       · rw [usesF_no hk hx2 hu] at h;cases h
       · rw [usesF_yes hk hx2 hu] at h ⊢;have hkl:k < seen.length:=by
          rw [hs.len];exact (List.getElem?_eq_some_iff.1 hx2).1
         have hset: (seen.set k ((pr:Int)+1))[k]? =some ((pr:Int)+1):=by rw [List.getElem?_set_self hkl]
         have hkeep:∀q:Nat,seen[q]? =some ((pr:Int)+1)→ (seen.set k ((pr:Int)+1))[q]? =some ((pr:Int)+1):=fun q hq=>by
          by_cases e:k=q
          · subst e;exact hset
          · rw [List.getElem?_set_ne e];exact hq
         have ih:=usesF_shut hx f (seen.set k ((pr:Int)+1)) (l ++ partsL x) ⟨by rw [List.length_set];exact hs.len,fun v hv=>by
          rcases List.mem_or_eq_of_mem_set hv with h3 | h3
          · exact hs.le v h3
          · omega,fun q y h1 h2=>by
          by_cases e:k=q
          · subst e;rw [hx2] at h2;injection h2 with h2
            subst h2;exact ⟨hu,fun p hp=> .inr (List.mem_append_right _ hp)⟩
          · rw [List.getElem?_set_ne e] at h1;refine ⟨(hs.shut q y h1 h2).1,fun p hp=> ?_⟩;rcases (hs.shut q y h1 h2).2 p hp with h3 | h3
            · exact .inl (hkeep _ h3)
            · rcases List.mem_append.1 h3 with h4 | h4
              · exact .inr (List.mem_append_left _ h4)
              · rw [List.mem_singleton] at h4;subst h4;exact .inl (by simpa using hset)⟩ (fun q hq=>by
          rcases List.mem_append.1 hq with h4 | h4
          · exact h0 q (by simp [h4])
          · exact ((hx.ok _ _ hx2).2 q h4).1) h
         refine ⟨ih.1,fun q hq=>ih.2.1 q (hkeep q hq),fun q hq=> ?_⟩;rcases List.mem_append.1 hq with h4 | h4
         · exact ih.2.2 q (List.mem_append_left _ h4)
         · rw [List.mem_singleton] at h4;subst h4;exact ih.2.1 k hset
theorem usesF_yes_all {m:ModelD} (hx:EX m) {pr:Nat}:∀ (f:Nat) (seen left:List Int),seen.length=m.exprs.length→ (∀q ∈ left,0≤q)→left.all (okU m pr)=true→left.length+toGo m pr seen < f→ (usesF m pr f seen left).1=true
 | 0,_,_,_,_,_,h=>by omega
 | f+1,seen,left,hl,h0,ha,hf=>by
   rcases List.eq_nil_or_concat left with rfl | ⟨l,q,rfl⟩
   · rw [usesF_nil]
   have hq0:0≤q:=h0 q (by simp);obtain ⟨k,rfl⟩:∃k:Nat,q=k:=⟨q.toNat,by omega⟩;rw [List.concat_eq_append] at ha h0 hf ⊢;rw [List.all_append,Bool.and_eq_true] at ha;rw [List.length_append] at hf;simp only [List.length_cons,List.length_nil] at hf;by_cases hk:seen[k]? =some ((pr:Int)+1)
   · rw [usesF_seen hk];exact usesF_yes_all hx f seen l hl (fun q hq=>h0 q (by simp [hq])) ha.1 (by omega)
   · have hok:okU m pr k=true:=by simpa using ha.2
     cases hx2:m.exprs[k]? with
     | none=>
       unfold okU at hok;rw [usesD] at hok;simp [hx2] at hok
     | some x=>
       rw [ok_step hx hx2,Bool.and_eq_true] at hok;rw [usesF_yes hk hx2 hok.1];have hkl:k < seen.length:=by
        rw [hl];exact (List.getElem?_eq_some_iff.1 hx2).1
       have hs:=List.getElem?_eq_getElem hkl;have ht:=toGo_set (proc:=pr) hx2 hs (fun e=>hk (by rw [hs,e]));refine usesF_yes_all hx f _ _ (by rw [List.length_set];exact hl) (fun q hq=> ?_) ?_ ?_
       · rcases List.mem_append.1 hq with h4 | h4
         · exact h0 q (by simp [h4])
         · exact ((hx.ok _ _ hx2).2 q h4).1
       · rw [List.all_append,ha.1,hok.2];rfl
       · rw [List.length_append];omega
theorem usesL_is {m:ModelD} (hx:EX m) {pr:Nat} {seen:List Int} (hs:Shut m pr seen []) {q:Int} (hq:0≤q): (usesL m pr seen q).1=okU m pr q∧ ((usesL m pr seen q).1=true→Shut m pr (usesL m pr seen q).2 []):=by
 unfold usesL;have h1:=usesF_shut hx 70000 seen [q] ⟨hs.len,hs.le,fun a x h1 h2=>⟨(hs.shut a x h1 h2).1,fun p hp=>by
  rcases (hs.shut a x h1 h2).2 p hp with h3 | h3
  · exact .inl h3
  · cases h3⟩⟩ (fun a ha=>by rw [List.mem_singleton] at ha;omega)
 refine ⟨?_,fun h=>(h1 h).1⟩;rw [Bool.eq_iff_iff];constructor
 · intro h;obtain ⟨h2,-,h3⟩:=h1 h;have h4:=h2.ok hx _ (h3 q (by simp));rw [show ((q.toNat:Nat):Int)=q by omega] at h4;exact h4
 · intro h;refine usesF_yes_all hx 70000 seen [q] hs.len (fun a ha=>by rw [List.mem_singleton] at ha;omega) (by simp [h]) ?_;have:=toGo_le m pr seen;have:=hx.sum;simp only [List.length_cons,List.length_nil];omega
theorem stop_is {σ α:Type} (I:σ→Prop) (f:σ→α→Bool × σ) (P:α→Bool):∀ (l:List α) (s:σ),(∀x ∈ l,∀s,I s→ (f s x).1=P x∧ ((f s x).1=true→I (f s x).2))→I s→ (stopF f l s).1=l.all P∧ ((stopF f l s).1=true→I (stopF f l s).2)
 | [],s,_,hs=>⟨rfl,fun _=>hs⟩
 | x :: r,s,h,hs=>by
   obtain ⟨h1,h2⟩:=h x (by simp) s hs;unfold stopF;cases hx: (f s x).1
   · simp only [Bool.false_eq_true,if_false,List.all_cons];rw [←h1,hx];exact ⟨rfl,fun h=>by cases h⟩
   · simp only [if_true,List.all_cons];rw [←h1,hx,Bool.true_and];exact stop_is I f P r _ (fun y hy=>h y (by simp [hy])) (h2 hx)
end Go.Proofs.YthfldokfnjpkmaaGreatDoor
namespace Go.Proofs.YthfldokfnjpkmaaGreatDoor
theorem parts39 {x:ExprD} (h:x.op=39):partsL x=x.args:=by
 unfold partsL moreL;have e:partsOf x.op=0:=by rw [h];rfl
 rw [e,if_neg (by omega),if_pos (.inr h)];rfl
def dtopB (m:ModelD) (pr:Nat) (run:Bool) (k:Int):Bool:=usesD m pr (k.toNat+1) k run
theorem top_is {m:ModelD} (hx:EX m) {pr:Nat} (run:Bool) {k:Int} (hk:isExprB m k=true): (topL m pr run k).all (okU m pr)=dtopB m pr run k:=by
 have hb:0≤k∧k < m.exprs.length:=by unfold isExprB at hk;simpa using hk
 obtain ⟨n,rfl⟩:∃n:Nat,k=n:=⟨k.toNat,by omega⟩;have hl:n < m.exprs.length:=by omega
 have he:=List.getElem?_eq_getElem hl;obtain ⟨y,hy⟩:∃y,m.exprs[n]=y:=⟨_,rfl⟩;rw [hy] at he;have hop:opAt m n=y.op:=by unfold opAt;simp [he]
 have hargs:argsAt m n=y.args:=by unfold argsAt;simp [he]
 have e1:dtopB m pr run n= (duseB m pr y run && (partsL y).all (okU m pr)):=by
  unfold dtopB;rw [usesD];simp only [Int.toNat_natCast,he];congr 1;rw [Bool.eq_iff_iff,List.all_eq_true,List.all_eq_true];refine forall_congr' fun q=>forall_congr' fun hq=> ?_
  have h1:=(hx.ok _ _ he).2 q hq;unfold okU;rw [uses_more hx n q false (by omega)]
 have e2:okU m pr n= (duseB m pr y false && (partsL y).all (okU m pr)):=by rw [ok_step hx he,use_is]
 unfold topL;rw [if_neg (by omega),hop,hargs,e1];by_cases h:run=true∧y.op=39∧ (pr:Int)≠m.claim
 · rw [if_pos h,parts39 h.2.1];unfold duseB;simp [h.1,h.2.1,h.2.2]
 · rw [if_neg h];simp only [List.all_cons,List.all_nil,Bool.and_true];rw [e2];congr 1;unfold duseB;cases run
   · rfl
   · by_cases h39:y.op=39
     · have : (pr:Int)=m.claim:=Classical.byContradiction fun h2=>h ⟨rfl,h39,h2⟩
       simp [h39,this]
     · simp [h39]
def dwayB (m:ModelD) (pr:Nat) (s:StmtD):Bool:=
 stmtB m s && (!(decide ((pr:Int)=m.claim)) || claimsB s.kind) && (decide (s.a < 0) || dtopB m pr (decide (s.kind=1)) s.a) && (decide (s.b < 0) || dtopB m pr (decide (s.kind=2)) s.b) && s.args.all (okU m pr)
theorem stmt_ab {m:ModelD} {s:StmtD} (h:stmtB m s=true): (0≤s.a→isExprB m s.a=true)∧ (0≤s.b→isExprB m s.b=true)∧s.args.all (isExprB m)=true:=by
 unfold stmtB at h;split at h
 · cases h
 · rename_i q hq
   simp only [Bool.and_eq_true] at h;obtain ⟨⟨⟨⟨h1,h2⟩,h3⟩,h4⟩,h5⟩:=h;unfold askAB at h1;simp only [Bool.not_eq_true',Bool.or_eq_false_iff,decide_eq_false_iff_not,Bool.and_eq_false_iff,Bool.not_eq_false'] at h1;obtain ⟨⟨⟨a1,a2⟩,b1⟩,b2⟩:=h1;refine ⟨fun h0=> ?_,fun h0=> ?_,h3⟩
   · have :q.hasA=true:=by
      have h6:q.hasA=decide (s.a≠ -1):=Classical.byContradiction a1;rw [h6,decide_eq_true_eq];omega
     rcases a2 with h7 | h7
     · rw [this] at h7;cases h7
     · exact h7
   · have :q.hasB=true:=by
      have h6:q.hasB=decide (s.b≠ -1):=Classical.byContradiction b1;rw [h6,decide_eq_true_eq];omega
     rcases b2 with h7 | h7
     · rw [this] at h7;cases h7
     · exact h7
theorem isExpr_le {m:ModelD} {k:Int} (h:isExprB m k=true):0≤k∧k < m.exprs.length:=by unfold isExprB at h;simpa using h
theorem top_le {m:ModelD} (hx:EX m) {pr:Nat} {run:Bool} {k:Int} (hk:0≤k→isExprB m k=true):∀q ∈ topL m pr run k,0≤q:=by
 unfold topL;split
 · intro q hq;cases hq
 · rename_i h0
   have hb:=isExpr_le (hk (by omega));split
   · rename_i h1
     intro q hq;have he:=List.getElem?_eq_getElem (show k.toNat < m.exprs.length by omega);have hop:opAt m k=m.exprs[k.toNat].op:=by unfold opAt;simp [he]
     have hargs:argsAt m k=m.exprs[k.toNat].args:=by unfold argsAt;simp [he]
     rw [hop] at h1;rw [hargs,←parts39 h1.2.1] at hq;exact ((hx.ok _ _ he).2 q hq).1
   · intro q hq;rw [List.mem_singleton] at hq;omega
theorem top_or {m:ModelD} (hx:EX m) {pr:Nat} {run:Bool} {k:Int} (hk:0≤k→isExprB m k=true): (topL m pr run k).all (okU m pr)= (decide (k < 0) || dtopB m pr run k):=by
 by_cases h:k < 0
 · unfold topL;rw [if_pos h];simp [h]
 · rw [top_is hx run (hk (by omega))];simp [h]
theorem way_is {m:ModelD} (hx:EX m) {pr:Nat} {seen:List Int} (hs:Shut m pr seen []) (t:TransD): (wayL m pr seen t).1=dwayB m pr t.s∧ ((wayL m pr seen t).1=true→Shut m pr (wayL m pr seen t).2 []):=by
 unfold wayL dwayB;cases hc: (stmtB m t.s && (!(decide ((pr:Int)=m.claim)) || claimsB t.s.kind))
 · simp
 · have h1:stmtB m t.s=true:=by rw [Bool.and_eq_true] at hc;exact hc.1
   obtain ⟨ha,hb,hc⟩:=stmt_ab h1;simp only [if_true,Bool.true_and];unfold usedByL;have key:=stop_is (fun s=>Shut m pr s []) (usesL m pr) (okU m pr) (topsL m pr t.s) seen (fun q hq s hs=>usesL_is hx hs (by
    unfold topsL at hq;rw [List.mem_append,List.mem_append] at hq;rcases hq with (hq | hq) | hq
    · exact top_le hx ha q hq
    · exact top_le hx hb q hq
    · rw [List.all_eq_true] at hc;exact (isExpr_le (hc q hq)).1)) hs
   refine ⟨?_,key.2⟩;rw [key.1];unfold topsL;rw [List.all_append,List.all_append,top_or hx ha,top_or hx hb]
def dlocB (m:ModelD) (pr:Nat) (l:LocD):Bool:=(l.out :: l.esc).all (fun w=>w.all (fun t=>dwayB m pr t.s))
theorem loc_is {m:ModelD} (hx:EX m) {pr:Nat} {seen:List Int} (hs:Shut m pr seen []) (l:LocD): (locL m pr seen l).1=dlocB m pr l∧ ((locL m pr seen l).1=true→Shut m pr (locL m pr seen l).2 []):=
 stop_is (fun s=>Shut m pr s []) (waysL m pr) (fun w=>w.all (fun t=>dwayB m pr t.s)) _ _ (fun w _ s hs=>stop_is (fun s=>Shut m pr s []) (wayL m pr) (fun t=>dwayB m pr t.s) w s (fun t _ s hs=>way_is hx hs t) hs) hs
def dprocB (m:ModelD) (x:ProcD × Nat):Bool:=x.1.locs.all (dlocB m x.2) && (decide (x.1.provided < 0) || okU m x.2 x.1.provided)
theorem proc_is {m:ModelD} (hx:EX m) {seen:List Int} (x:ProcD × Nat) (hs:Shut m x.2 seen []): (procL m seen x).1=dprocB m x∧ ((procL m seen x).1=true→Shut m x.2 (procL m seen x).2 []):=by
 have key:=stop_is (fun s=>Shut m x.2 s []) (locL m x.2) (dlocB m x.2) x.1.locs seen (fun l _ s hs=>loc_is hx hs l) hs;unfold procL dprocB;rw [←key.1];cases h: (stopF (locL m x.2) x.1.locs seen).1
 · simp
 · have h2:=key.2 h;simp only [if_true,Bool.true_and];by_cases h0:0≤x.1.provided
   · rw [if_pos h0];have:=usesL_is hx h2 h0;rw [decide_eq_false (by omega),Bool.false_or];exact this
   · rw [if_neg h0,decide_eq_true (by omega)];exact ⟨rfl,fun _=>h2⟩
def dstatGo (m:ModelD):List (ProcD × Nat)→Int × Bool
 | []=>(0,true)
 | x :: r=>if dprocB m x=true then dstatGo m r else (x.2,false)
theorem stat_is {m:ModelD} (hx:EX m):∀ (l:List ProcD) (k:Nat) (seen:List Int),seen.length=m.exprs.length→ (∀v ∈ seen,v≤ (k:Int))→statGo m (l.zipIdx k) seen=dstatGo m (l.zipIdx k)
 | [],k,seen,_,_=>rfl
 | p :: r,k,seen,hl,hv=>by
   rw [List.zipIdx_cons];unfold statGo dstatGo;have hs:Shut m (p,k).2 seen []:=⟨hl,fun v h=>by have:=hv v h;show v≤ (k:Int)+1;omega,fun q x h=>by
    have h1:=hv _ (List.mem_of_getElem? h)
    exfalso
    have h2: ((k:Int)+1)≤k:=h1;omega⟩
   have key:=proc_is hx (p,k) hs;rw [←key.1];cases h: (procL m seen (p,k)).1
   · rfl
   · have h3:=key.2 h;simp only [if_true];exact stat_is hx r (k+1) _ h3.len (fun v hv=>by have h4:=h3.le v hv;have h5:v≤ (k:Int)+1:=h4;omega)
theorem statements_is {m:ModelD} (hx:EX m):statementsL m=dstatGo m m.procs.zipIdx:=by
 unfold statementsL;exact stat_is hx m.procs 0 _ (by simp) (fun v hv=>by rw [List.eq_of_mem_replicate hv];simp)
def dtabHead (p:ProcD):Bool:= !(decide (128 < p.frame.length∨p.init.length≠p.frame.length∨p.params < 0∨ (p.frame.length:Int) < p.params∨p.locs.length < 1∨256 < p.locs.length))
def dtabTail (m:ModelD) (p:ProcD):Bool:=decide (0≤p.start∧p.start < p.locs.length∧0≤p.final∧p.final < p.locs.length∧0≤p.active∧p.active≤16∧1≤p.prio∧p.prio≤255∧ -1≤p.provided∧p.provided < m.exprs.length)
def dtabClaim (p:ProcD):Bool:=decide (p.frame.length=0∧p.active≤0∧p.provided < 0)
def dtabLoc (p:ProcD) (cl:Bool) (x:LocD × Nat):Bool:=locHeadB p x.2 x.1 && (!cl || looksLocB x.1) && x.1.out.all (toB p.locs.length) && x.1.esc.all (escB p.locs.length)
def dtableB (m:ModelD) (x:ProcD × Nat):Bool:=
 dtabHead x.1 && (x.1.frame.zip x.1.init).all fitZ && dtabTail m x.1 && (!(decide ((x.2:Int)=m.claim)) || dtabClaim x.1) && x.1.locs.zipIdx.all (dtabLoc x.1 (decide ((x.2:Int)=m.claim))) && decide (manyP x.1≤1024)
theorem zip_fst {p:ProcD} {cl:Bool}:∀ (l:List LocD) (k:Nat),(l.zipIdx k).all (dtabLoc p cl)= ((l.zipIdx k).all (locB' p) && (!cl || l.all looksLocB))
 | [],k=>by simp
 | a :: r,k=>by
   rw [List.zipIdx_cons,List.all_cons,List.all_cons,List.all_cons,zip_fst r (k+1)];have e:dtabLoc p cl (a,k)= (locB' p (a,k) && (!cl || looksLocB a)):=by
    unfold dtabLoc locB' locB;cases locHeadB p k a <;> cases cl <;> cases looksLocB a <;> cases a.out.all (toB p.locs.length) <;> cases a.esc.all (escB p.locs.length) <;> rfl
   rw [e];cases locB' p (a,k) <;> cases cl <;> cases looksLocB a <;> cases (r.zipIdx (k+1)).all (locB' p) <;> cases r.all looksLocB <;> rfl
theorem table_is (m:ModelD) (x:ProcD × Nat):dtableB m x=procB m x:=by
 unfold dtableB procB frameB placesB looksOnB;rw [zip_fst];have e1: (dtabHead x.1 && dtabTail m x.1)= (frameHeadB x.1 && frameTailB m x.1 && placesHeadB x.1):=by
  unfold dtabHead dtabTail frameHeadB frameTailB placesHeadB;rw [Bool.eq_iff_iff];simp only [Bool.and_eq_true,Bool.not_eq_true',decide_eq_false_iff_not,decide_eq_true_eq];omega
 have e2:frameHeadB x.1=true→frameTailB m x.1=true→dtabClaim x.1=decide (x.1.frame.length=0∧x.1.params=0∧x.1.active=0∧x.1.provided= -1):=by
  intro h1 h2;unfold frameHeadB at h1;unfold frameTailB at h2;unfold dtabClaim;simp only [Bool.not_eq_true',decide_eq_false_iff_not,decide_eq_true_eq] at h1 h2;rw [Bool.eq_iff_iff];simp only [decide_eq_true_eq];omega
 generalize dtabClaim x.1=q1 at*;generalize decide (x.1.frame.length=0∧x.1.params=0∧x.1.active=0∧x.1.provided= -1)=q2 at*;generalize dtabHead x.1=a1 at*;generalize dtabTail m x.1=a2 at*;generalize frameHeadB x.1=b1 at*;generalize frameTailB m x.1=b2 at*;generalize placesHeadB x.1=b3 at*;generalize (x.1.frame.zip x.1.init).all fitZ=b4 at*;generalize decide ((x.2:Int)=m.claim)=b5 at*;generalize x.1.locs.zipIdx.all (locB' x.1)=b6 at*;generalize x.1.locs.all looksLocB=b7 at*;generalize decide (manyP x.1≤1024)=b8 at*;cases b1 <;> cases b2 <;> cases b3 <;> cases a1 <;> cases a2 <;> simp_all
 all_goals (cases b4 <;> cases b5 <;> cases q2 <;> cases b6 <;> cases b7 <;> cases b8 <;> simp_all)
end Go.Proofs.YthfldokfnjpkmaaGreatDoor
namespace Go.Proofs.YthfldokfnjpkmaaGreatDoor
open Go.ChangeShapes Go.WideShapes Go.ChangeAt Go.RowKit
theorem procsL_every {m:ModelD} (h: (procsL m).2=true) {i:Nat} {x:ProcD} (hx:m.procs[i]? =some x):procB m (x,i)=true:=by
 unfold procsL idxB at h;split at h
 · cases h
 · rename_i hb
   refine bad_all hb _ ?_;obtain ⟨hi,rfl⟩:=List.getElem?_eq_some_iff.1 hx;rw [List.mem_iff_getElem];exact ⟨i,by rw [List.length_zipIdx];exact hi,by simp⟩
structure GM (m:ModelD):Prop where
 ex:EX m
 procs:∀ (i:Nat) (p:ProcD),m.procs[i]? =some p→procB m (p,i)=true
 ways:∀ (i:Nat) (p:ProcD),m.procs[i]? =some p→dprocB m (p,i)=true
 least:1≤m.procs.length
theorem dstat_all {m:ModelD}:∀ (l:List ProcD) (k:Nat),(dstatGo m (l.zipIdx k)).2=true→∀ (i:Nat) (p:ProcD),l[i]? =some p→dprocB m (p,k+i)=true
 | [],k,_,i,p,hp=>by simp at hp
 | q :: r,k,h,i,p,hp=>by
   rw [List.zipIdx_cons] at h;unfold dstatGo at h;split at h
   · rename_i h1
     cases i with
     | zero=>simp at hp;subst hp;exact h1
     | succ i=>
       have:=dstat_all r (k+1) h i p (by simpa using hp);rw [show k+ (i+1)=k+1+i by omega];exact this
   · cases h
theorem GM.of {m:ModelD} (h:goodB m=true):GM m:=by
 unfold goodB checkL at h;rw [decide_eq_true_eq] at h;by_cases h1: (globalsL m).2=false
 · rw [if_pos h1] at h;simp at h
 rw [if_neg h1] at h;by_cases h2: (channelsL m).2=false
 · rw [if_pos h2] at h;simp at h
 rw [if_neg h2] at h;by_cases h3: (expressionsL m).2=false
 · rw [if_pos h3] at h;simp at h
 rw [if_neg h3] at h;by_cases h4: (procsL m).2=false
 · rw [if_pos h4] at h;simp at h
 rw [if_neg h4] at h;by_cases h5: (activeL m).2=false
 · rw [if_pos h5] at h;simp at h
 rw [if_neg h5] at h;by_cases h6: (statementsL m).2=false
 · rw [if_pos h6] at h;simp at h
 have h3': (expressionsL m).2=true:=by simpa using h3
 have h4': (procsL m).2=true:=by simpa using h4
 have h6': (statementsL m).2=true:=by simpa using h6
 have hex:=EX.of h3';refine ⟨hex,fun i p hp=>procsL_every h4' hp,fun i p hp=> ?_, ?_⟩
 · rw [statements_is hex] at h6';have:=dstat_all m.procs 0 h6' i p hp;simpa using this
 · unfold expressionsL at h3';split at h3'
   · cases h3'
   · rename_i hh
     unfold exprsHead at hh;rw [decide_eq_true_eq] at hh;omega
def badX (x:ExprD):Bool:=decide (x.op=32∨x.op=36∨x.op=37∨x.op=38∨ (x.op=2∧x.v.scope=2))
def prio0 (m:ModelD):Int:=(m.procs[0]?.map (·.prio)).getD 0
def prioB (m:ModelD) (p:ProcD):Bool:=decide (p.prio=prio0 m)
def atomB (p:ProcD):Bool:=p.locs.any (·.atomic)
def timeB (x:ExprD):Bool:=decide (x.op=35)
def okX (x:ExprD):Bool:= !badX x
def admB (m:ModelD):Bool:=decide (m.claim < 0) && m.procs.all (prioB m) && m.exprs.all okX && !(m.procs.any atomB && m.exprs.any timeB)
def admE (m:ModelD):Int:=if goodB m=true then (if admB m=true then 0 else 44) else 40
def ownX (f:Int→Bool) (x:ExprD):Bool:=if x.op=1∨x.op=31 then true else if 24 < x.op∨ (x.op=2∧x.v.scope≠1) then false else (partsL x).all f
def ownF (m:ModelD):Nat→Int→Bool
 | 0,_=>false
 | f+1,q=>match m.exprs[q.toNat]? with
   | none=>false
   | some x=>ownX (ownF m f) x
def ownB (m:ModelD) (q:Int):Bool:=ownF m (q.toNat+1) q
theorem ownX_congr {f g:Int→Bool} {x:ExprD} (h:∀p ∈ partsL x,f p=g p):ownX f x=ownX g x:=by
 unfold ownX;split
 · rfl
 · split
   · rfl
   · rw [Bool.eq_iff_iff,List.all_eq_true,List.all_eq_true];exact ⟨fun a p hp=>by rw [←h p hp];exact a p hp,fun a p hp=>by rw [h p hp];exact a p hp⟩
theorem ownF_more {m:ModelD} (hx:EX m):∀ (n f:Nat) (q:Int),q.toNat < n→q.toNat < f→0≤q→ownF m f q=ownF m (q.toNat+1) q
 | 0,f,q,h,_,_=>by omega
 | n+1,0,q,_,h,_=>by omega
 | n+1,f+1,q,h1,h2,h3=>by
   unfold ownF;cases hq:m.exprs[q.toNat]? with
   | none=>rfl
   | some x=>
     simp only;refine ownX_congr fun p hp=> ?_
     have hb:=(hx.ok q.toNat x hq).2 p hp;rw [ownF_more hx n f p (by omega) (by omega) hb.1,ownF_more hx n q.toNat p (by omega) (by omega) hb.1]
theorem ownB_is {m:ModelD} (hx:EX m) {q:Int} (h0:0≤q) {x:ExprD} (hq:m.exprs[q.toNat]? =some x):ownB m q=ownX (ownB m) x:=by
 have e:ownB m q=ownX (ownF m q.toNat) x:=by
  unfold ownB;show (match m.exprs[q.toNat]? with | none=>false | some x=>ownX (ownF m q.toNat) x)=_;rw [hq]
 rw [e];refine ownX_congr fun p hp=> ?_
 have hb:=(hx.ok q.toNat x hq).2 p hp;exact ownF_more hx (p.toNat+1) q.toNat p (by omega) (by omega) hb.1
def ownS (m:ModelD) (s:StmtD):Bool:=
 if s.kind=1 then ownB m s.a else if s.kind=2 then ownB m s.a && ownB m s.b else if s.kind=4 then s.args.all (ownB m) else decide (s.kind=7∨s.kind=8)
def markB (l:LocD):Bool:=l.atomic || l.dstep || l.accept || l.progress
def meetB (s:ShapeD):Bool:=decide (s.room=0)
def meetsB (m:ModelD):Bool:=m.shapes.any meetB
def takesB (t:TransD):Bool:=decide (t.s.kind=6∧t.s.n≤1)
def takesL (w:List TransD):Bool:=w.any takesB
def recvLB (l:LocD):Bool:=(l.out :: l.esc).any takesL
def toLB (m:ModelD) (l:LocD):Bool:= !markB l && !(meetsB m && recvLB l)
def outB (m:ModelD) (p:ProcD) (t:TransD):Bool:=ownS m t.s && match p.locs[t.to.toNat]? with
 | none=>false
 | some l=>toLB m l
def headB (p:ProcD) (l:LocD):Bool:=decide (0 < l.out.length) && decide (l.esc.length=0) && !markB l && decide (p.provided < 0)
def safeLB (m:ModelD) (p:ProcD) (l:LocD):Bool:=headB p l && l.out.all (outB m p)
def safesL (m:ModelD) (p:ProcD):List Bool:=p.locs.map (safeLB m p)
def safeAt (m:ModelD) (i k:Nat):Bool:=match m.procs[i]? with
 | none=>false
 | some p=>match p.locs[k]? with
   | none=>false
   | some l=>safeLB m p l
theorem GM.stmt {m:ModelD} (h:GM m) {i:Nat} {p:ProcD} (hp:m.procs[i]? =some p) {l:LocD} (hl:l ∈ p.locs) {t:TransD} (ht:t ∈ l.out):stmtB m t.s=true:=by
 have h1:=h.ways i p hp;unfold dprocB at h1;simp only [Bool.and_eq_true] at h1;have h2:=List.all_eq_true.1 h1.1 l hl;unfold dlocB at h2;have h3:=List.all_eq_true.1 h2 l.out (by simp);have h4:=List.all_eq_true.1 h3 t ht;unfold dwayB at h4;simp only [Bool.and_eq_true] at h4;exact h4.1.1.1.1
theorem GM.to {m:ModelD} (h:GM m) {i:Nat} {p:ProcD} (hp:m.procs[i]? =some p) {l:LocD} (hl:l ∈ p.locs) {t:TransD} (ht:t ∈ l.out):0≤t.to∧t.to < p.locs.length:=by
 have h1:=h.procs i p hp;unfold procB placesB at h1;simp only [Bool.and_eq_true] at h1;have h2:=h1.1.2.1.2;obtain ⟨k,hk,rfl⟩:=List.mem_iff_getElem.1 hl;have h3:=List.all_eq_true.1 h2 (p.locs[k],k) (by rw [List.mem_iff_getElem];exact ⟨k,by simpa using hk,by simp⟩);unfold locB' locB at h3;simp only [Bool.and_eq_true] at h3;have h4:=List.all_eq_true.1 h3.1.2 t ht;unfold toB at h4;simpa using h4
theorem GM.esc {m:ModelD} (h:GM m) {i:Nat} {p:ProcD} (hp:m.procs[i]? =some p) {l:LocD} (hl:l ∈ p.locs):l.esc.length≤8:=by
 have h1:=h.procs i p hp;unfold procB placesB at h1;simp only [Bool.and_eq_true] at h1;have h2:=h1.1.2.1.2;obtain ⟨k,hk,rfl⟩:=List.mem_iff_getElem.1 hl;have h3:=List.all_eq_true.1 h2 (p.locs[k],k) (by rw [List.mem_iff_getElem];exact ⟨k,by simpa using hk,by simp⟩);unfold locB' locB locHeadB at h3;simp only [Bool.and_eq_true,Bool.not_eq_true',decide_eq_false_iff_not] at h3;omega
theorem GM.many {m:ModelD} (h:GM m) {i:Nat} {p:ProcD} (hp:m.procs[i]? =some p):p.locs.length≤256:=by
 have h1:=h.procs i p hp;unfold procB placesB placesHeadB at h1;simp only [Bool.and_eq_true,Bool.not_eq_true',decide_eq_false_iff_not] at h1;omega
theorem stmt_parts {m:ModelD} {s:StmtD} (h:stmtB m s=true):
 ((s.kind=1∨s.kind=2)→ (0≤s.a∧s.a < m.exprs.length)∧s.args= [])∧ (s.kind=2→0≤s.b∧s.b < m.exprs.length)∧ (s.kind=1→s.b= -1)∧ (s.kind=4→s.a= -1∧s.b= -1)∧ ((s.kind=7∨s.kind=8)→s.a= -1∧s.b= -1∧s.args= [])∧ (∀q ∈ s.args,0≤q∧q < m.exprs.length):=by
 have hargs:∀q ∈ s.args,0≤q∧q < m.exprs.length:=by
  intro q hq;have h3:=(stmt_ab h).2.2;exact isExpr_le (List.all_eq_true.1 h3 q hq)
 unfold stmtB at h;split at h
 · cases h
 · rename_i q hq
   simp only [Bool.and_eq_true] at h;obtain ⟨⟨⟨⟨h1,h2⟩,_⟩,_⟩,_⟩:=h;unfold askAB at h1;unfold askN at h2;simp only [Bool.not_eq_true',Bool.or_eq_false_iff,decide_eq_false_iff_not,Bool.and_eq_false_iff,Bool.not_eq_false',Decidable.not_not] at h1 h2;unfold askOf at hq;refine ⟨fun hk=> ?_,fun hk=> ?_,fun hk=> ?_,fun hk=> ?_,fun hk=> ?_,hargs⟩
   · rcases hk with hk | hk
     · rw [if_pos (by omega)] at hq;injection hq with hq
       subst hq;simp only at h1 h2;refine ⟨isExpr_le (by simpa using h1.1.1.2),List.eq_nil_of_length_eq_zero (by omega)⟩
     · rw [if_neg (by omega),if_pos (by omega)] at hq;injection hq with hq
       subst hq;simp only at h1 h2;refine ⟨isExpr_le (by simpa using h1.1.1.2),List.eq_nil_of_length_eq_zero (by omega)⟩
   · rw [if_neg (by omega),if_pos (by omega)] at hq;injection hq with hq
     subst hq;simp only at h1 h2;exact isExpr_le (by simpa using h1.2)
   · rw [if_pos (by omega)] at hq;injection hq with hq
     subst hq;simpa using h1.1.2
   · rw [if_neg (by omega),if_neg (by omega),if_pos (by omega)] at hq;injection hq with hq
     subst hq;exact ⟨by simpa using h1.1.1.1,by simpa using h1.1.2⟩
   · rw [if_neg (by omega),if_neg (by omega),if_neg (by omega),if_neg (by omega),if_neg (by omega),if_pos (by omega)] at hq;injection hq with hq
     subst hq;simp only at h1 h2;exact ⟨by simpa using h1.1.1.1,by simpa using h1.1.2,List.eq_nil_of_length_eq_zero (by omega)⟩
end Go.Proofs.YthfldokfnjpkmaaGreatDoor
