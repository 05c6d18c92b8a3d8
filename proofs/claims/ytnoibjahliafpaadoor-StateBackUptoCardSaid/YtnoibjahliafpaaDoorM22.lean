/- The document's answer to which models may be run, as functions of data near its words; and that they are the program's. -/
import Derived.Test.YtnoibjahliafpaaDoorM05
import Derived.Test.YtnoibjahliafpaaDoorM21
import Derived.Test.YtnoibjahliafpaaDoorM17
import Derived.StillTailTactics
import Derived.Laws.AppendOwn
set_option linter.unusedVariables false
set_option linter.unusedSimpArgs false
namespace Go.Proofs.YtnoibjahliafpaaDoor
def belowB (n:Int) (l:List Int):Bool:=l.all (fun q=>decide (0≤q∧q < n))
def ddimB (n:Int) (d:DimD):Bool:=decide (0≤d.i∧d.i < n) && dimB d
def dvtB (m:ModelD) (n:Int) (v:VarD):Bool:=if v.scope=2 then decide (0≤v.who∧v.who < n) && ptypeB m v.type else decide (v.who= -1∧v.type= -1)
def dvarB (m:ModelD) (n:Int) (v:VarD):Bool:=varHeadB v && dvtB m n v && v.dims.all (ddimB n)
def dfieldB (m:ModelD) (x:Int × Int):Bool:=decide (-1≤x.2∧x.2≤1) && (!(decide (x.2=0)) || decide (opAt m x.1=2))
def dmatB (m:ModelD) (n:Int) (args mat:List Int):Bool:=belowB n args && decide (1≤args.length∧args.length≤8∧mat.length=args.length) && (args.zip mat).all (dfieldB m)
def dpartB (n:Int) (k:Nat) (x:Int × Nat):Bool:=if x.2 < k then decide (0≤x.1∧x.1 < n) else decide (x.1= -1)
def dheadB (n:Int) (x:ExprD):Bool:=(abcL x).zipIdx.all (dpartB n (partsOf x.op))
def dkindB (m:ModelD) (n:Int) (x:ExprD):Bool:=
 if x.op=1 then decide (-2147483648≤x.n∧x.n≤2147483647) else if x.op=2 then dvarB m n x.v else if x.op=30 then dmatB m n x.args x.mat && decide (x.n=0∨x.n=1)
 else if x.op=38 then ptypeB m x.n && decide (1≤x.args.length) && belowB (locsAt m x.n) x.args else if x.op=39 then ptypeB m x.n && belowB n x.args && decide ((x.args.length:Int)=paramsAt m x.n) else true
def dexprB (m:ModelD) (n:Int) (x:ExprD):Bool:=decide (1≤x.op∧x.op≤39) && dheadB n x && dkindB m n x
theorem below_mono {n k:Int} {l:List Int} (h:belowB n l=true) (hk:n≤k):belowB k l=true:=by
 unfold belowB at h ⊢;rw [List.all_eq_true] at h ⊢;intro q hq;have:=h q hq;simp only [decide_eq_true_eq] at this ⊢;omega
theorem below_app {n:Int} {a b:List Int}:belowB n (a ++ b)= (belowB n a && belowB n b):=by unfold belowB;rw [List.all_append]
theorem ptypeB_of {m:ModelD} {n:Int}:ptypeB m n=true↔0≤n∧n < m.procs.length∧n≠m.claim:=by unfold ptypeB;rw [decide_eq_true_eq]
theorem head_is (n:Int) (x:ExprD):dheadB n x= (restB x && belowB n ((abcL x).take (partsOf x.op))):=by
 unfold dheadB restB belowB abcL dpartB;have h:partsOf x.op=0∨partsOf x.op=1∨partsOf x.op=2∨partsOf x.op=3:=by
  unfold partsOf
  repeat' split
  all_goals simp
 rcases h with h | h | h | h <;> rw [h] <;> rw [Bool.eq_iff_iff] <;> simp [List.zipIdx] <;> (try omega)
theorem var_is (m:ModelD) (n:Int) (v:VarD):dvarB m n v= (varB m v && belowB n ((if v.scope=2 then [v.who] else []) ++ v.dims.map (·.i))):=by
 unfold dvarB dvtB varB varTailB ddimB;rw [below_app];have e:v.dims.all (fun d=>decide (0≤d.i∧d.i < n) && dimB d)= (belowB n (v.dims.map (·.i)) && v.dims.all dimB):=by
  unfold belowB
  induction v.dims with
  | nil=>rfl
  | cons d r ih=>
    simp only [List.all_cons,List.map_cons,ih];cases decide (0≤d.i∧d.i < n) <;> cases dimB d <;> cases (List.map (fun x=>x.i) r).all (fun q=>decide (0≤q∧q < n)) <;> rfl
 rw [e];by_cases h:v.scope=2
 · simp only [if_pos h];have e2:belowB n [v.who]=decide (0≤v.who∧v.who < n):=by unfold belowB;simp
   rw [e2];cases varHeadB v <;> cases decide (0≤v.who∧v.who < n) <;> cases ptypeB m v.type <;> cases belowB n (v.dims.map (·.i)) <;> cases v.dims.all dimB <;> rfl
 · simp only [if_neg h];have e2:belowB n []=true:=rfl;rw [e2];cases varHeadB v <;> cases decide (v.who= -1∧v.type= -1) <;> cases belowB n (v.dims.map (·.i)) <;> cases v.dims.all dimB <;> rfl
theorem zip_all {m:ModelD} {n:Int} (hn:n≤m.exprs.length):∀ (args mat:List Int),mat.length=args.length→belowB n args=true→ (args.zip mat).all (dfieldB m)= (args.zip mat).all (fieldB m)
 | [],_,_,_=>rfl
 | a :: r,[],h,_=>by simp at h
 | a :: r,q :: s,h,hb=>by
   have hb': (0≤a∧a < n)∧belowB n r=true:=by
    unfold belowB at hb ⊢;simpa using hb
   simp only [List.zip_cons_cons,List.all_cons,zip_all hn r s (by simpa using h) hb'.2];congr 1;unfold dfieldB fieldB isVarB;have e:isExprB m a=true:=by unfold isExprB;rw [decide_eq_true_eq];omega
   simp only [e,Bool.true_and]
theorem mat_is {m:ModelD} {n:Int} (hn:n≤m.exprs.length) (args mat:List Int):dmatB m n args mat= (fieldsB m args mat && belowB n args):=by
 unfold dmatB fieldsB;cases hb:belowB n args
 · simp
 · by_cases h:1≤args.length∧args.length≤8∧mat.length=args.length
   · rw [decide_eq_true h,decide_eq_false (by omega),zip_all hn args mat h.2.2 hb];simp
   · rw [decide_eq_false h,decide_eq_true (by omega)];simp
theorem fit32 (v:Int):fitB 32 true v=decide (-2147483648≤v∧v≤2147483647):=by
 have e:fitB 32 true v= (decide (-2147483648≤v) && decide (v < 2147483648)):=by unfold fitB;rfl
 rw [e,Bool.eq_iff_iff];simp;omega
theorem kind_is {m:ModelD} {n:Int} (hn:n≤m.exprs.length) (x:ExprD):dkindB m n x= (kindB m x && belowB n (moreL x)):=by
 unfold dkindB kindB moreL;by_cases h1:x.op=1
 · simp [h1,fit32,belowB]
 by_cases h2:x.op=2
 · simp only [if_neg h1,if_pos h2];exact var_is m n x.v
 by_cases h3:x.op=30
 · simp only [if_neg h1,if_neg h2,if_pos h3,if_pos (Or.inl h3:x.op=30∨x.op=39)];rw [mat_is hn];cases fieldsB m x.args x.mat <;> cases belowB n x.args <;> cases decide (x.n=0∨x.n=1) <;> rfl
 by_cases h4:x.op=38
 · have h5:¬ (x.op=30∨x.op=39):=by omega
   simp only [if_neg h1,if_neg h2,if_neg h3,if_pos h4,if_neg h5];have e2:belowB n []=true:=rfl;rw [e2];unfold atB belowB;have e3:decide (1≤x.args.length)= !(decide (x.args.length=0)):=by
    rw [Bool.eq_iff_iff];simp only [decide_eq_true_eq,Bool.not_eq_true',decide_eq_false_iff_not];omega
   rw [e3];cases ptypeB m x.n <;> cases decide (x.args.length=0) <;> cases x.args.all (fun q=>decide (0≤q∧q < locsAt m x.n)) <;> rfl
 by_cases h6:x.op=39
 · simp only [if_neg h1,if_neg h2,if_neg h3,if_neg h4,if_pos h6,if_pos (Or.inr h6:x.op=30∨x.op=39)];cases ptypeB m x.n <;> cases belowB n x.args <;> cases decide ((x.args.length:Int)=paramsAt m x.n) <;> rfl
 · have h5:¬ (x.op=30∨x.op=39):=by omega
   simp only [if_neg h1,if_neg h2,if_neg h3,if_neg h4,if_neg h6,if_neg h5];rfl
theorem expr_is {m:ModelD} {n:Int} (hn:n≤m.exprs.length) (x:ExprD):dexprB m n x= (exprB m x && belowB n (partsL x)):=by
 unfold dexprB exprB partsL;rw [head_is,kind_is hn,below_app];cases decide (1≤x.op∧x.op≤39) <;> cases restB x <;> cases kindB m x <;> cases belowB n ((abcL x).take (partsOf x.op)) <;> cases belowB n (moreL x) <;> rfl
theorem take_no {i:Nat}:∀ (l:List Int) (s:List Bool),(l.foldl (takePart i) (s,false)).2=false
 | [],s=>rfl
 | p :: r,s=>by
   rw [List.foldl_cons];unfold takePart;split
   · exact take_no r s
   · exact take_no r _
theorem take_bad {i:Nat} {l:List Int} {s:List Bool × Bool} (h:s.2=false): (l.foldl (takePart i) s).2=false:=by
 obtain ⟨a,b⟩:=s;simp only at h;subst h;exact take_no l a
theorem take_below {i:Nat}:∀ (l:List Int) (s:List Bool × Bool),(l.foldl (takePart i) s).2=true→belowB i l=true
 | [],s,_=>rfl
 | p :: r,s,h=>by
   rw [List.foldl_cons] at h;have h1:=take_below r _ h;unfold belowB at h1 ⊢;rw [List.all_cons,h1,Bool.and_true,decide_eq_true_eq];cases h2: (takePart i s p).2
   · rw [take_bad h2] at h;cases h
   · unfold takePart at h2;split at h2
     · cases h2
     · omega
def duseB (m:ModelD) (pr:Nat) (x:ExprD) (run:Bool):Bool:=
 !(decide (x.op=39) && !run) && !(decide ((pr:Int)=m.claim) && decide (x.op=31∨x.op=39∨ (x.op=2∧x.v.scope=1))) && !(decide (x.op=2∧roomL m pr x.v < reachL x.v))
def usesD (m:ModelD) (pr:Nat):Nat→Int→Bool→Bool
 | 0,_,_=>false
 | f+1,k,run=>match m.exprs[k.toNat]? with
   | none=>false
   | some x=>duseB m pr x run && (partsL x).all (fun q=>usesD m pr f q false)
theorem uses_more {m:ModelD} (hx:EX m) {pr:Nat}:∀ (f:Nat) (k:Int) (run:Bool),k.toNat < f→usesD m pr f k run=usesD m pr (k.toNat+1) k run
 | 0,k,run,h=>by omega
 | f+1,k,run,h=>by
   rw [usesD,usesD];cases hk:m.exprs[k.toNat]? with
   | none=>rfl
   | some x=>
     simp only;congr 1;rw [Bool.eq_iff_iff,List.all_eq_true,List.all_eq_true];refine forall_congr' fun q=>forall_congr' fun hq=> ?_
     have h1:=(hx.ok _ _ hk).2 q hq;rw [uses_more hx f q false (by omega),uses_more hx k.toNat q false (by omega)]
termination_by f=>f
def okU (m:ModelD) (pr:Nat) (k:Int):Bool:=usesD m pr (k.toNat+1) k false
theorem use_is (m:ModelD) (pr:Nat) (x:ExprD):duseB m pr x false=useB m pr x:=by
 unfold duseB useB liesB;by_cases h1:x.op=39
 · simp [h1]
 by_cases h2:x.op=31
 · simp [h1,h2]
 by_cases h3:x.op=2
 · simp [h1,h2,h3];by_cases h4:x.v.scope=1 <;> by_cases h5: (pr:Int)=m.claim <;> simp [h4,h5]
   all_goals rw [Bool.eq_iff_iff];simp
 · simp [h1,h2,h3]
theorem ok_step {m:ModelD} (hx:EX m) {pr:Nat} {k:Nat} {x:ExprD} (h:m.exprs[k]? =some x):okU m pr k= (useB m pr x && (partsL x).all (okU m pr)):=by
 unfold okU;rw [usesD];simp only [Int.toNat_natCast,h,use_is];congr 1;rw [Bool.eq_iff_iff,List.all_eq_true,List.all_eq_true];refine forall_congr' fun q=>forall_congr' fun hq=> ?_
 have h1:=(hx.ok _ _ h).2 q hq;rw [uses_more hx k q false (by omega)]
structure Shut (m:ModelD) (pr:Nat) (seen left:List Int):Prop where
 len:seen.length=m.exprs.length
 le:∀v ∈ seen,v≤ (pr:Int)+1
 shut:∀ (q:Nat) (x:ExprD),seen[q]? =some ((pr:Int)+1)→m.exprs[q]? =some x→useB m pr x=true∧∀p ∈ partsL x,seen[p.toNat]? =some ((pr:Int)+1)∨p ∈ left
theorem Shut.ok {m:ModelD} (hx:EX m) {pr:Nat} {seen:List Int} (h:Shut m pr seen []):∀ (q:Nat),seen[q]? =some ((pr:Int)+1)→okU m pr q=true
 | q,hq=>by
   have hl:q < m.exprs.length:=by
    obtain ⟨h1,-⟩:=List.getElem?_eq_some_iff.1 hq;rw [←h.len];exact h1
   have he:=List.getElem?_eq_getElem hl;rw [ok_step hx he];obtain ⟨h1,h2⟩:=h.shut q _ hq he;rw [h1,Bool.true_and,List.all_eq_true];intro p hp;have hb:=(hx.ok _ _ he).2 p hp;rcases h2 p hp with h3 | h3
   · have e:p= (p.toNat:Int):=by omega
     rw [e];exact Shut.ok hx h p.toNat h3
   · cases h3
termination_by q=>q
decreasing_by omega
theorem usesF_shut {m:ModelD} (hx:EX m) {pr:Nat}:∀ (f:Nat) (seen left:List Int),Shut m pr seen left→ (∀q ∈ left,0≤q)→ (usesF m pr f seen left).1=true→
 Shut m pr (usesF m pr f seen left).2 []∧ (∀q:Nat,seen[q]? =some ((pr:Int)+1)→ (usesF m pr f seen left).2[q]? =some ((pr:Int)+1))∧∀q ∈ left,(usesF m pr f seen left).2[q.toNat]? =some ((pr:Int)+1)
 | 0,seen,left,_,_,h=>by simp [usesF] at h
 | f+1,seen,left,hs,h0,h=>by
   rcases List.eq_nil_or_concat left with rfl | ⟨l,q,rfl⟩
   · rw [usesF_nil];exact ⟨hs,fun _ h=>h,fun q hq=>by cases hq⟩
   have hq0:0≤q:=h0 q (by simp);obtain ⟨k,rfl⟩:∃k:Nat,q=k:=⟨q.toNat,by omega⟩;rw [List.concat_eq_append] at hs h h0 ⊢;by_cases hk:seen[k]? =some ((pr:Int)+1)
   · rw [usesF_seen hk] at h ⊢;have ih:=usesF_shut hx f seen l ⟨hs.len,hs.le,fun q x h1 h2=>⟨(hs.shut q x h1 h2).1,fun p hp=>by
      rcases (hs.shut q x h1 h2).2 p hp with h3 | h3
      · exact .inl h3
      · rcases List.mem_append.1 h3 with h4 | h4
        · exact .inr h4
        · rw [List.mem_singleton] at h4;subst h4;exact .inl (by simpa using hk)⟩⟩ (fun q hq=>h0 q (by simp [hq])) h
     refine ⟨ih.1,ih.2.1,fun q hq=> ?_⟩;rcases List.mem_append.1 hq with h4 | h4
     · exact ih.2.2 q h4
     · rw [List.mem_singleton] at h4;subst h4;exact ih.2.1 k hk
   · cases hx2:m.exprs[k]? with
     | none=>
       rw [usesF,List.getLast?_concat] at h;simp [hk,hx2] at h
     | some x=>
       cases hu:useB m pr x
       · rw [usesF_no hk hx2 hu] at h;cases h
       · rw [usesF_yes hk hx2 hu] at h ⊢;have hkl:k < seen.length:=by
          rw [hs.len];exact (List.getElem?_eq_some_iff.1 hx2).1
         have hset: (seen.set k ((pr:Int)+1))[k]? =some ((pr:Int)+1):=by rw [List.getElem?_set_self hkl]
         have hkeep:∀q:Nat,seen[q]? =some ((pr:Int)+1)→ (seen.set k ((pr:Int)+1))[q]? =some ((pr:Int)+1):=fun q hq=>by
          by_cases e:k=q
          · subst e;exact hset
          · rw [List.getElem?_set_ne e];exact hq
         have ih:=usesF_shut hx f (seen.set k ((pr:Int)+1)) (l ++ partsL x) ⟨by rw [List.length_set];exact hs.len,fun v hv=>by
          rcases List.mem_or_eq_of_mem_set hv with h3 | h3
          · exact hs.le v h3
          · omega,fun q y h1 h2=>by
          by_cases e:k=q
          · subst e;rw [hx2] at h2;injection h2 with h2
            subst h2;exact ⟨hu,fun p hp=> .inr (List.mem_append_right _ hp)⟩
          · rw [List.getElem?_set_ne e] at h1;refine ⟨(hs.shut q y h1 h2).1,fun p hp=> ?_⟩;rcases (hs.shut q y h1 h2).2 p hp with h3 | h3
            · exact .inl (hkeep _ h3)
            · rcases List.mem_append.1 h3 with h4 | h4
              · exact .inr (List.mem_append_left _ h4)
              · rw [List.mem_singleton] at h4;subst h4;exact .inl (by simpa using hset)⟩ (fun q hq=>by
          rcases List.mem_append.1 hq with h4 | h4
          · exact h0 q (by simp [h4])
          · exact ((hx.ok _ _ hx2).2 q h4).1) h
         refine ⟨ih.1,fun q hq=>ih.2.1 q (hkeep q hq),fun q hq=> ?_⟩;rcases List.mem_append.1 hq with h4 | h4
         · exact ih.2.2 q (List.mem_append_left _ h4)
         · rw [List.mem_singleton] at h4;subst h4;exact ih.2.1 k hset
theorem usesF_yes_all {m:ModelD} (hx:EX m) {pr:Nat}:∀ (f:Nat) (seen left:List Int),seen.length=m.exprs.length→ (∀q ∈ left,0≤q)→left.all (okU m pr)=true→left.length+toGo m pr seen < f→ (usesF m pr f seen left).1=true
 | 0,_,_,_,_,_,h=>by omega
 | f+1,seen,left,hl,h0,ha,hf=>by
   rcases List.eq_nil_or_concat left with rfl | ⟨l,q,rfl⟩
   · rw [usesF_nil]
   have hq0:0≤q:=h0 q (by simp);obtain ⟨k,rfl⟩:∃k:Nat,q=k:=⟨q.toNat,by omega⟩;rw [List.concat_eq_append] at ha h0 hf ⊢;rw [List.all_append,Bool.and_eq_true] at ha;rw [List.length_append] at hf;simp only [List.length_cons,List.length_nil] at hf;by_cases hk:seen[k]? =some ((pr:Int)+1)
   · rw [usesF_seen hk];exact usesF_yes_all hx f seen l hl (fun q hq=>h0 q (by simp [hq])) ha.1 (by omega)
   · have hok:okU m pr k=true:=by simpa using ha.2
     cases hx2:m.exprs[k]? with
     | none=>
       unfold okU at hok;rw [usesD] at hok;simp [hx2] at hok
     | some x=>
       rw [ok_step hx hx2,Bool.and_eq_true] at hok;rw [usesF_yes hk hx2 hok.1];have hkl:k < seen.length:=by
        rw [hl];exact (List.getElem?_eq_some_iff.1 hx2).1
       have hs:=List.getElem?_eq_getElem hkl;have ht:=toGo_set (proc:=pr) hx2 hs (fun e=>hk (by rw [hs,e]));refine usesF_yes_all hx f _ _ (by rw [List.length_set];exact hl) (fun q hq=> ?_) ?_ ?_
       · rcases List.mem_append.1 hq with h4 | h4
         · exact h0 q (by simp [h4])
         · exact ((hx.ok _ _ hx2).2 q h4).1
       · rw [List.all_append,ha.1,hok.2];rfl
       · rw [List.length_append];omega
theorem usesL_is {m:ModelD} (hx:EX m) {pr:Nat} {seen:List Int} (hs:Shut m pr seen []) {q:Int} (hq:0≤q): (usesL m pr seen q).1=okU m pr q∧ ((usesL m pr seen q).1=true→Shut m pr (usesL m pr seen q).2 []):=by
 unfold usesL;have h1:=usesF_shut hx 70000 seen [q] ⟨hs.len,hs.le,fun a x h1 h2=>⟨(hs.shut a x h1 h2).1,fun p hp=>by
  rcases (hs.shut a x h1 h2).2 p hp with h3 | h3
  · exact .inl h3
  · cases h3⟩⟩ (fun a ha=>by rw [List.mem_singleton] at ha;omega)
 refine ⟨?_,fun h=>(h1 h).1⟩;rw [Bool.eq_iff_iff];constructor
 · intro h;obtain ⟨h2,-,h3⟩:=h1 h;have h4:=h2.ok hx _ (h3 q (by simp));rw [show ((q.toNat:Nat):Int)=q by omega] at h4;exact h4
 · intro h;refine usesF_yes_all hx 70000 seen [q] hs.len (fun a ha=>by rw [List.mem_singleton] at ha;omega) (by simp [h]) ?_;have:=toGo_le m pr seen;have:=hx.sum;simp only [List.length_cons,List.length_nil];omega
theorem stop_is {σ α:Type} (I:σ→Prop) (f:σ→α→Bool × σ) (P:α→Bool):∀ (l:List α) (s:σ),(∀x ∈ l,∀s,I s→ (f s x).1=P x∧ ((f s x).1=true→I (f s x).2))→I s→ (stopF f l s).1=l.all P∧ ((stopF f l s).1=true→I (stopF f l s).2)
 | [],s,_,hs=>⟨rfl,fun _=>hs⟩
 | x :: r,s,h,hs=>by
   obtain ⟨h1,h2⟩:=h x (by simp) s hs;unfold stopF;cases hx: (f s x).1
   · simp only [Bool.false_eq_true,if_false,List.all_cons];rw [←h1,hx];exact ⟨rfl,fun h=>by cases h⟩
   · simp only [if_true,List.all_cons];rw [←h1,hx,Bool.true_and];exact stop_is I f P r _ (fun y hy=>h y (by simp [hy])) (h2 hx)
end Go.Proofs.YtnoibjahliafpaaDoor
namespace Go.Proofs.YtnoibjahliafpaaDoor
open Go.ChangeShapes Go.WideShapes Go.ChangeAt Go.RowKit
structure Bq (w:World) (p:Nat) (cs:Array Value) (T:TypeId) (W:World):Prop where
 box:W.heap[p]? =some (.cells cs T (0,0))
 bel:Below w.heap.size w W
theorem Bq.below {w W W':World} {p:Nat} {cs:Array Value} {T:TypeId} (h:Bq w p cs T W) (hb:Below W.heap.size W W'):Bq w p cs T W':=⟨(hb.block _ (lt_of_block h.box)).trans h.box,h.bel.trans (hb.mono h.bel.size)⟩
theorem Bq.cell {w W:World} {p:Nat} {cs:Array Value} {T:TypeId} (h:Bq w p cs T W) {i:Nat} {v:Value} (hv:cs[i]? =some v):W.cell? ⟨p,i,none⟩=some v:=(cell_of_row _ _ _ _ _ _ h.box).trans hv
theorem Bq.new {w W:World} (h:Below w.heap.size w W) (cs:Array Value) (T:TypeId):Bq w W.heap.size cs T (W.alloc (.cells cs T)):=⟨heap_alloc_new W _,h.alloc h.size _⟩
structure Mx (w:World) (p:Nat) (CS:Array Value) (h:MH) (m:ModelD) (W:World):Prop where
 eq:CS=mCells h m
 bx:Bq w p CS 29 W
 md:MD w.heap.size W h m
section
variable {w W W':World} {p:Nat} {CS:Array Value} {h:MH} {m:ModelD}
theorem Mx.below (k:Mx w p CS h m W) (hb:Below W.heap.size W W'):Mx w p CS h m W':=⟨k.eq,k.bx.below hb,k.md.below (hb.mono k.bx.bel.size)⟩
theorem Mx.new (hd:MD w.heap.size w h m) (hC:CS=mCells h m):Mx w w.heap.size CS h m (w.alloc (.cells CS 29)):=⟨hC,Bq.new (Below.refl _ _) _ _,hd.below (ball _)⟩
theorem Mx.info (k:Mx w p CS h m W): (Tryd.prog.info? 29).map (·.size)=some CS.size:=by
 rw [k.eq];show _=some 7;kernel_rfl
theorem Mx.c0 (k:Mx w p CS h m W):W.cell? ⟨p,0,none⟩=some (.slice h.go m.globals.length h.gc):=k.bx.cell (by rw [k.eq];rfl)
theorem Mx.c1 (k:Mx w p CS h m W):W.cell? ⟨p,1,none⟩=some (.slice h.io m.init.length h.ic):=k.bx.cell (by rw [k.eq];rfl)
theorem Mx.c2 (k:Mx w p CS h m W):W.cell? ⟨p,2,none⟩=some (.slice h.so m.shapes.length h.sc):=k.bx.cell (by rw [k.eq];rfl)
theorem Mx.c3 (k:Mx w p CS h m W):W.cell? ⟨p,3,none⟩=some (.slice h.co m.chans.length h.cc):=k.bx.cell (by rw [k.eq];rfl)
theorem Mx.c4 (k:Mx w p CS h m W):W.cell? ⟨p,4,none⟩=some (.slice h.po m.procs.length h.pc):=k.bx.cell (by rw [k.eq];rfl)
theorem Mx.c5 (k:Mx w p CS h m W):W.cell? ⟨p,5,none⟩=some (.int .i64 m.claim):=k.bx.cell (by rw [k.eq];rfl)
theorem Mx.c6 (k:Mx w p CS h m W):W.cell? ⟨p,6,none⟩=some (.slice h.eo m.exprs.length h.ec):=k.bx.cell (by rw [k.eq];rfl)
theorem Mx.here (k:Mx w p CS h m W):MD W.heap.size W h m:=k.md.lift k.bx.bel.size
end
end Go.Proofs.YtnoibjahliafpaaDoor
namespace Go.Proofs.YtnoibjahliafpaaDoor
open Go.ChangeShapes Go.WideShapes Go.ChangeAt Go.RowKit
theorem zip_getH {α β:Type} {a:List α} {b:List β} {k:Nat} (h1:k < a.length) (h2:k < b.length):∃h:k < (a.zip b).length,(a.zip b)[k]= (a[k],b[k]):=⟨by rw [List.length_zip];omega,List.getElem_zip⟩
def typedF (t:List (Int × Bool)) (v:List Int):Int:=match bad fitZ (t.zip v) with
 | some i=>(i:Int)
 | none=> -1
theorem typed_neg {t:List (Int × Bool)} {v:List Int} (h:typedF t v < 0): (t.zip v).all fitZ=true:=by
 unfold typedF at h;split at h
 · omega
 · rename_i hb
   rw [List.all_eq_true];exact bad_all hb
theorem typed_pos {t:List (Int × Bool)} {v:List Int} (h:0≤typedF t v): (t.zip v).all fitZ=false∧idxB (bad fitZ (t.zip v))= (typedF t v,false):=by
 unfold typedF at h ⊢;cases hb:bad fitZ (t.zip v) with
 | none=>rw [hb] at h;simp at h
 | some i=>
   refine ⟨?_,rfl⟩;unfold bad at hb;rw [List.findIdx?_eq_some_iff_getElem] at hb;obtain ⟨hi,h1,-⟩:=hb;exact all_bad hi (by simpa using h1)
end Go.Proofs.YtnoibjahliafpaaDoor
namespace Go.Proofs.YtnoibjahliafpaaDoor
open Go.ChangeShapes Go.WideShapes Go.ChangeAt Go.RowKit
theorem new_at {W:World} {o:Obj} {q:Nat} (h:W.heap.size=q): (W.alloc o).heap[q]? =some o:=by
 subst h;exact heap_alloc_new W o
theorem ddim_bad {n I L S:Int} (h:L < 1∨128 < L∨S < 0∨128 < S):ddimB n ⟨I,L,S⟩=false:=by
 have e:dimB ⟨I,L,S⟩=false:=by unfold dimB;rw [decide_eq_true (by exact h)];rfl
 unfold ddimB;rw [e,Bool.and_false]
theorem ddim_ok {n I L S:Int} (hI:0≤I∧I < n) (h:¬ (L < 1∨128 < L∨S < 0∨128 < S)):ddimB n ⟨I,L,S⟩=true:=by
 have e:dimB ⟨I,L,S⟩=true:=by unfold dimB;rw [decide_eq_false (by exact h)];rfl
 unfold ddimB;rw [e,decide_eq_true (by exact hI)];rfl
structure Vx (w:World) (CS VS:Array Value) (h:MH) (m:ModelD) (W:World):Prop where
 mx:Mx w w.heap.size CS h m W
 vx:Bq w (w.heap.size+1) VS 121 W
theorem Vx.below {w W W':World} {CS VS:Array Value} {h:MH} {m:ModelD} (k:Vx w CS VS h m W) (hb:Below W.heap.size W W'):Vx w CS VS h m W':=⟨k.mx.below hb,k.vx.below hb⟩
theorem Vx.new {w:World} {CS VS:Array Value} {h:MH} {m:ModelD} (hd:MD w.heap.size w h m) (hC:CS=mCells h m):Vx w CS VS h m ((w.alloc (.cells CS 29)).alloc (.cells VS 121)):=by
 refine ⟨(Mx.new hd hC).below (ball _),new_at (by simp), ?_⟩;exact ((Mx.new hd hC).bx.bel.alloc (by simp) _)
end Go.Proofs.YtnoibjahliafpaaDoor
namespace Go.Proofs.YtnoibjahliafpaaDoor
open Go.ChangeShapes Go.WideShapes Go.ChangeAt Go.RowKit
theorem Mx.drewN {w W:World} {p:Nat} {CS:Array Value} {h:MH} {m:ModelD} (k:Mx w p CS h m W) (n:Nat):Mx w p CS h m (W.drewN n):=k.below (bdrew (Below.refl _ _) n)
theorem dfield_false1 {m:ModelD} {x q:Int} (h:¬ (-1≤q∧q≤1)):dfieldB m (x,q)=false:=by
 unfold dfieldB;rw [decide_eq_false (by exact h)];rfl
theorem dfield_is {m:ModelD} {x q op:Int} (h: -1≤q∧q≤1) (ho:opAt m x=op):dfieldB m (x,q)= (!(decide (q=0)) || decide (op=2)):=by
 unfold dfieldB;rw [decide_eq_true (by exact h),ho];rfl
end Go.Proofs.YtnoibjahliafpaaDoor
namespace Go.Proofs.YtnoibjahliafpaaDoor
open Go.ChangeShapes Go.WideShapes Go.ChangeAt Go.RowKit
namespace held
theorem info_parts {t:TypeId} {z:Value} {a b:Nat} (h: (Tryd.prog.info? t).map (fun i=>(i.zero,i.size,i.bytes))=some (some z,a,b)):∃i,Tryd.prog.info? t=some i∧i.zero=some z∧i.size=a∧i.bytes=b:=by
 cases hi:Tryd.prog.info? t with
 | none=>rw [hi] at h;cases h
 | some i=>
   rw [hi] at h;simp only [Option.map_some,Option.some.injEq,Prod.mk.injEq] at h;exact ⟨i,rfl,h.1,h.2.1,h.2.2⟩
theorem info_int: (Tryd.prog.info? 3).map (fun i=>(i.zero,i.size,i.bytes))=some (some (.int .i64 0),1,8):=by kernel_rfl
end held
theorem run_append_zero {P:Program} (w:World) (base:Nat) (t ty e:TypeId) (i:TypeInfo) (size:Nat) (ht:P.underlying t=some (.slice e)) (hi:P.info? e=some i)
 (v:Value) (n:Nat) (xs:List Value) (hown:w.ownsRow base e size v n xs) (o:Option Addr) (c:Nat):
 (Builtin.append_ #[t,t] ty #[v,.slice o 0 c]).run P w= .ok v w:=by
 have key: (Builtin.firstCells i.size 0 (.slice o 0 c)).run P w= .ok #[] w:=by
  cases o <;> simp [Builtin.firstCells,loadCells,loadCellsFrom]
 rcases hown.2 with ⟨rfl,rfl⟩ | ⟨g,cap,cur,rfl,_,_,hnc,_⟩
 · simp [Builtin.append_,run_underlying ht,sizeOf,typeInfo,hi,Builtin.lenOf,key]
 · simp [Builtin.append_,run_underlying ht,sizeOf,typeInfo,hi,Builtin.lenOf,key,hnc,storeCells]
theorem wpList_append_zero {P:Program} {w:World} {ops:Array Oper} {rest:List Oper} {o:Oper} {a:Act} {Q:Exit→Act→World→Prop} (hgd:o.guard=none) (s x:Operand) (t:TypeId)
 (ho:o.op= .call { callee:= .builtin .append,args:=#[s,x],argTypes:=#[t,t] })
 (base:Nat) (e:TypeId) (i:TypeInfo) (size:Nat) (ht:P.underlying t=some (.slice e)) (hi:P.info? e=some i)
 (v:Value) (n:Nat) (xs:List Value) (hs:a.eval s=v) (hown:w.ownsRow base e size v n xs) (ao:Option Addr) (c:Nat) (hx:a.eval x= .slice ao 0 c)
 (h:wpList P ops Q rest (a.put o.dst v) w):wpList P ops Q (o :: rest) a w:=by
 refine wpList_plain hgd fun K hK=> ?_
 have hrun:=run_append_zero (P:=P) w base t o.type e i size ht hi v n xs hown ao c;unfold Oper.wp;simp [execOp,ho,resolve,invoke,builtin,hs,hx,hrun,Result.andThen];exact hK _ _ h
theorem held.add_off (b off k:Nat): (⟨b,off,none⟩:Addr).add k= ⟨b,off+k,none⟩:=by
 unfold Addr.add;split <;> simp_all
def iCells (l:List Int):List Value:=l.map fun x=>Value.int .i64 x
theorem iCells_app (a b:List Int):iCells (a ++ b)=iCells a ++ iCells b:=by simp [iCells]
theorem iCells_one (l:List Int):∀u ∈ iCells l,u.oneCell'=true:=by
 intro u hu;simp only [iCells,List.mem_map] at hu;obtain ⟨z,-,rfl⟩:=hu;rfl
theorem one_int (W:World) (x:Int):∀j u',(iCells [x])[j]? =some u'→ (W.alloc (.cells #[.int .i64 x] 3)).cell? ((⟨W.heap.size,0,none⟩:Addr).add j)=some u':=by
 intro j u' hj
 match j,hj with
 | 0,hj=>simp [iCells] at hj;subst hj;exact (cell_of_row _ _ 0 _ _ _ (heap_alloc_new W _)).trans rfl
 | j+1,hj=>simp [iCells] at hj
structure HJ (w0:World) (XS:Array Value) (v:Value) (l:List Int) (W:World):Prop where
 own:W.ownsRow (w0.heap.size+1) 3 1 v l.length (iCells l)
 bx:Bq w0 w0.heap.size XS 123 W
section
variable {w0 W W1:World} {XS:Array Value} {v v1:Value} {l m:List Int} {o:Obj}
theorem HJ.base (h:HJ w0 XS v l W):w0.heap.size+1≤W.heap.size:=lt_of_block h.bx.box
theorem HJ.put (h:HJ w0 XS v l W) (hg: (W.alloc o).grownBy W1 v.ownBlock) (ho:W1.ownsRow (w0.heap.size+1) 3 1 v1 (l.length+m.length) (iCells l ++ iCells m)):HJ w0 XS v1 (l ++ m) W1:=by
 have hb:=h.base;refine ⟨by rw [List.length_append,iCells_app];exact ho, ?_, ?_⟩
 · rw [hg.block w0.heap.size (by simp;omega) (fun e=>by have:=(h.own.lt _ e.symm).1;omega)];exact ((ball o).block _ hb).trans h.bx.box
 · exact (h.bx.bel.alloc h.bx.bel.size _).grown hg (by simp;omega) (fun k hk=>by have:=(h.own.lt k hk).1;omega)
theorem HJ.put0 (h:HJ w0 XS v l W) (hg:W.grownBy W1 v.ownBlock) (ho:W1.ownsRow (w0.heap.size+1) 3 1 v1 (l.length+m.length) (iCells l ++ iCells m)):HJ w0 XS v1 (l ++ m) W1:=by
 have hb:=h.base;refine ⟨by rw [List.length_append,iCells_app];exact ho, ?_, ?_⟩
 · rw [hg.block w0.heap.size (by omega) (fun e=>by have:=(h.own.lt _ e.symm).1;omega)];exact h.bx.box
 · exact h.bx.bel.grown hg (by omega) (fun k hk=>by have:=(h.own.lt k hk).1;omega)
end
def HeldP (w:World) (p:List Int) (e:Ending) (w':World):Prop:=∃o c,e= .returned (.slice o p.length c)∧ (Row w'.heap.size o 1 (intAt w') p∧∀g off,o=some ⟨g,off,none⟩→w.heap.size≤g)∧Below w.heap.size w w'
theorem HJ.done {w0 W:World} {XS:Array Value} {v:Value} {l p:List Int} (h:HJ w0 XS v l W) (hle:p.length≤17592186044416) (he:l=p):HeldP w0 p (.returned v) W:=by
 subst he;rcases h.own.2 with ⟨rfl,hl⟩ | ⟨g,cap,cur,rfl,hb,hg,hc,hm,hs,ht⟩
 · have :l= []:=List.eq_nil_of_length_eq_zero hl;subst this;exact ⟨none,0,rfl,⟨Row.nil _ _ _ _,fun g off h=>by cases h⟩,h.bx.bel⟩
 · refine ⟨some ⟨g,0,none⟩,cap,rfl,⟨⟨by omega,.inr ⟨g,0,rfl,lt_of_block hg,fun i hi=> ?_⟩⟩,fun g' off' e=>by injection e with e;injection e with e;omega⟩,h.bx.bel⟩;have h2:=h.own.cells (g:=g) rfl i (.int .i64 l[i]) (by simp [iCells,hi]);rw [held.add_off] at h2;unfold intAt;rw [show 0+i*1=0+i by omega];exact h2
end Go.Proofs.YtnoibjahliafpaaDoor
