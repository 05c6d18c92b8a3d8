/- Numbers' decimals, there and back. -/
import Derived.Test.YtnoibjahliafpaaDoorM01
import Derived.Lib.ItoaMem
import Derived.Lib.ItoaLen
import Derived.Lib.ParseIntB
set_option linter.unusedVariables false
set_option linter.unusedSimpArgs false
namespace Go.Proofs.YtnoibjahliafpaaDoor
open Go.ChangeShapes Go.WideShapes Go.ChangeAt Go.RowKit
def inI (n:Int):Prop:= -9223372036854775808≤n∧n≤9223372036854775807
def num (p:List UInt8):Option Int:=
 match Lib.parseIntB 64 p with
 | .ok n=>if Lib.itoa n=p then some n else none
 | _=>none
theorem byte_digit {d:Nat} (h:d < 10): (UInt8.ofNat (48+d)).toNat=48+d:=by
 simp;omega
theorem puM_append (M:Nat):∀ (xs ys:List UInt8) (acc:Nat),Lib.parseUintM M acc (xs ++ ys)= (match Lib.parseUintM M acc xs with | .ok a=>Lib.parseUintM M a ys | .range=> .range | .syntax=> .syntax)
 | [],ys,acc=>by simp [Lib.parseUintM]
 | c :: r,ys,acc=>by
   simp only [List.cons_append,Lib.parseUintM];split
   · split
     · rfl
     · split
       · rfl
       · exact puM_append M r ys _
   · rfl
theorem puM_dec (u:Nat) (h:u≤18446744073709551615):Lib.parseUintM 18446744073709551615 0 (Lib.decDigits u)= .ok u:=by
 induction u using Nat.strongRecOn with
 | _ u ih=>
   by_cases h10:u < 10
   · rw [Lib.decDigits,dif_pos h10];simp only [Lib.parseUintM,byte_digit h10];rw [if_pos (by omega),if_neg (by omega),if_neg (by omega)];congr 1;omega
   · rw [Lib.decDigits,dif_neg h10,puM_append,ih (u / 10) (by omega) (by omega)];simp only [Lib.parseUintM,byte_digit (show u % 10 < 10 by omega)];rw [if_pos (by omega),if_neg (by omega),if_neg (by omega)];congr 1;omega
theorem dec_ne (u:Nat):Lib.decDigits u≠ []:=by
 rw [Lib.decDigits];split
 · simp
 · simp
theorem dec_all (u:Nat):∀c ∈ Lib.decDigits u,48≤c.toNat∧c.toNat≤57:=by
 induction u using Nat.strongRecOn with
 | _ u ih=>
   intro c hc;rw [Lib.decDigits] at hc;split at hc
   · simp only [List.mem_singleton] at hc;subst hc;rw [byte_digit (by assumption)];omega
   · simp only [List.mem_append,List.mem_singleton] at hc;rcases hc with hc | rfl
     · exact ih (u / 10) (by omega) c hc
     · rw [byte_digit (by omega)];omega
theorem parse_itoa (n:Int) (h:inI n):Lib.parseIntB 64 (Lib.itoa n)= .ok n:=by
 obtain ⟨h0,h1⟩:=h;unfold Lib.itoa;split
 · rename_i hn
   unfold Lib.parseIntB;simp only [show (45:UInt8).toNat=45 from rfl,or_true,if_true];have hp:Lib.parseUintB 64 (Lib.decDigits n.natAbs)= .ok n.natAbs:=by
    unfold Lib.parseUintB;rw [if_neg (dec_ne _)];exact puM_dec _ (by omega)
   rw [hp];simp only;rw [if_neg (by simp),if_neg (by simp;omega)];simp;omega
 · rename_i hn
   have hd:=dec_all n.toNat;have hp:Lib.parseUintB 64 (Lib.decDigits n.toNat)= .ok n.toNat:=by
    unfold Lib.parseUintB;rw [if_neg (dec_ne _)];exact puM_dec _ (by omega)
   cases hl:Lib.decDigits n.toNat with
   | nil=>exact absurd hl (dec_ne _)
   | cons c r=>
     have hc:=hd c (by rw [hl];simp);unfold Lib.parseIntB;simp only;rw [if_neg (by omega),←hl,hp];simp only;rw [if_neg (by omega),if_neg (by omega),if_neg (by omega)];congr 1;omega
theorem parse_in {p:List UInt8} {n:Int} (h:Lib.parseIntB 64 p= .ok n):inI n:=by
 unfold Lib.parseIntB at h;cases p with
 | nil=>simp at h
 | cons c r=>
   simp only at h;split at h
   · cases h
   · cases h
   · rename_i u hu
     split at h
     · cases h
     · split at h
       · cases h
       · rename_i g1 g2
         injection h with h
         subst h;unfold inI;simp at g1 g2;split
         · rename_i hneg
           have:=g2 hneg;omega
         · rename_i hneg
           have:=g1 hneg;omega
theorem num_some {p:List UInt8} {n:Int}:num p=some n↔inI n∧Lib.itoa n=p:=by
 constructor
 · intro h;unfold num at h;split at h
   · rename_i m hm
     split at h
     · rename_i he
       injection h with h
       subst h;exact ⟨parse_in hm,he⟩
     · cases h
   · cases h
 · rintro ⟨h1,rfl⟩;unfold num;rw [parse_itoa n h1];simp
theorem num_none {p:List UInt8} (h:num p=none) (n:Int) (hn:inI n):Lib.itoa n≠p:=fun e=>by
 have:=num_some.2 ⟨hn,e⟩;rw [h] at this;cases this
def isDig (c:UInt8):Bool:=decide (48≤c.toNat) && decide (c.toNat≤57)
def valD (l:List UInt8):Int:=l.foldl (fun a c=>a*10+ ((c.toNat:Int) - 48)) 0
theorem valD_snoc (l:List UInt8) (c:UInt8):valD (l ++ [c])=valD l*10+ ((c.toNat:Int) - 48):=by simp [valD]
theorem valD_dec (u:Nat):valD (Lib.decDigits u)=u:=by
 induction u using Nat.strongRecOn with
 | _ u ih=>
   by_cases h:u < 10
   · rw [dec_last h];have:=byte_digit (d:=u % 10) (by omega);simp only [valD,List.foldl_cons,List.foldl_nil,this];omega
   · rw [dec_step h,valD_snoc,ih (u / 10) (by omega),byte_digit (d:=u % 10) (by omega)];omega
def sgn (b:Bool):Int:=if b=true then -1 else 1
theorem wrap_step (a d:Int):wrap64 (wrap64 (wrap64 a*10)+d)=wrap64 (a*10+d):=by
 unfold wrap64;omega
theorem wrap_in (a:Int):inI (wrap64 a):=by
 unfold wrap64 inI;omega
theorem wrap_of {a:Int} (h:inI a):wrap64 a=a:=by
 unfold inI at h;unfold wrap64;omega
theorem dig_dec (u:Nat):∀c ∈ Lib.decDigits u,isDig c=true:=fun c hc=>by
 have:=dec_all u c hc;simp [isDig,this]
structure Split1 (t:List UInt8) (neg:Bool) (D:List UInt8):Prop where
 eq:t= (if neg=true then 45 :: D else D)
 free:neg=false→∀r,t≠45 :: r
theorem itoa_split {t:List UInt8} {neg:Bool} {D:List UInt8} (h:Split1 t neg D) {n:Int} (e:Lib.itoa n=t): (neg=true↔n < 0)∧D=Lib.decDigits n.natAbs:=by
 unfold Lib.itoa at e;by_cases hn:n < 0
 · rw [if_pos hn] at e;cases neg with
   | true=>
     have h1:=h.eq;rw [if_pos rfl,←e] at h1;injection h1 with _ h2
     exact ⟨by simp [hn],h2.symm⟩
   | false=>exact absurd e.symm (h.free rfl _)
 · rw [if_neg hn] at e;have e2:n.toNat=n.natAbs:=by omega
   rw [e2] at e;cases neg with
   | true=>
     have h1:=h.eq;rw [if_pos rfl,←e] at h1;have:=dec_all n.natAbs 45 (by rw [h1];simp);exact absurd this.1 (by decide)
   | false=>
     have h1:=h.eq;rw [if_neg (by simp),←e] at h1;exact ⟨by simp [hn],h1.symm⟩
theorem num_bad {t:List UInt8} {neg:Bool} {D:List UInt8} (h:Split1 t neg D) {c:UInt8} (hc:c ∈ D) (hd:isDig c=false):num t=none:=by
 cases hn:num t with
 | none=>rfl
 | some n=>
   obtain ⟨_,h2⟩:=num_some.1 hn;obtain ⟨_,h4⟩:=itoa_split h h2;rw [h4] at hc;rw [dig_dec _ c hc] at hd;cases hd
theorem dec_len (k:Nat):∀u,u < 10 ^ (k+1)→ (Lib.decDigits u).length≤k+1:=by
 induction k with
 | zero=>
   intro u h;rw [dec_last (by simpa using h)];simp
 | succ k ih=>
   intro u h;by_cases h10:u < 10
   · rw [dec_last h10];simp
   · rw [dec_step h10,List.length_append];have:=ih (u / 10) (by rw [Nat.pow_succ] at h;omega);simp;omega
theorem itoa20 {n:Int} (h:inI n): (Lib.itoa n).length≤20:=by
 have h1:=dec_len 18 n.natAbs (by unfold inI at h;omega);unfold Lib.itoa;split
 · simp;omega
 · rw [show n.toNat=n.natAbs by omega];omega
theorem num_long {t:List UInt8} (h:t.length < 1∨20 < t.length):num t=none:=by
 cases hn:num t with
 | none=>rfl
 | some n=>
   obtain ⟨h1,h2⟩:=num_some.1 hn;have h3:=itoa20 h1;rw [h2] at h3;rcases h with h | h
   · have :Lib.itoa n= []:=by rw [h2];exact List.length_eq_zero_iff.1 (by omega)
     unfold Lib.itoa at this;split at this
     · cases this
     · exact absurd this (dec_ne _)
   · omega
theorem num_is {t:List UInt8} {neg:Bool} {D:List UInt8} (h:Split1 t neg D) {n:Int} (hn:n=wrap64 (sgn neg*valD D)):num t=if Lib.itoa n=t then some n else none:=by
 have hin:inI n:=by rw [hn];exact wrap_in _
 by_cases he:Lib.itoa n=t
 · rw [if_pos he];exact num_some.2 ⟨hin,he⟩
 · rw [if_neg he];cases hm:num t with
   | none=>rfl
   | some m=>
     obtain ⟨h1,h2⟩:=num_some.1 hm;obtain ⟨h3,h4⟩:=itoa_split h h2
     exfalso
     apply he;have :n=m:=by
      rw [hn,h4,valD_dec];rw [show sgn neg* (m.natAbs:Int)=m by
       cases neg with
       | true=>have:=h3.1 rfl;simp [sgn];omega
       | false=>have :¬m < 0:=fun hlt=>by have:=h3.2 hlt;cases this
                simp [sgn];omega]
      exact wrap_of h1
     rw [this];exact h2
theorem sg_step (neg:Bool) (v d:Int):sgn neg*v*10+sgn neg*d=sgn neg* (v*10+d):=by
 cases neg
 · simp [sgn]
 · simp [sgn];omega
theorem bt_at (t:List UInt8) (k:Nat) (h:k < t.length): (⟨t.toArray⟩:ByteArray)[k]'(by simpa [ByteArray.size] using h)=t[k]:=rfl
def NumP (R:Option Int) (n:Int) (ok:Bool):Prop:=
 match R with
 | some v=>ok=true∧n=v
 | none=>ok=false
theorem b_ne {b:UInt8} (h:b≠45): ((b.toNat:Int) == 45)=false:=by
 refine beq_eq_false_iff_ne.2 fun e=>h (UInt8.toNat_inj.1 ?_)
 have h2:b.toNat=45:=by omega
 rw [h2];rfl
end Go.Proofs.YtnoibjahliafpaaDoor
namespace Go.Proofs.YtnoibjahliafpaaDoor
def tyB (b:Int) (s:Bool):Bool:=decide (1≤b) && decide (b≤32) && (!s || decide (b=16) || decide (b=32))
def fitB (b:Int) (s:Bool) (v:Int):Bool:=
 tyB b s && (if s then decide (-2 ^ (b.toNat - 1)≤v) && decide (v < 2 ^ (b.toNat - 1)) else decide (0≤v) && decide (v < 2 ^ b.toNat))
def reachR:List DimD→Int→Int
 | [],a=>a
 | d :: r,a=>if d.len < 1∨1073741825 < d.len∨d.stride < 0∨1073741824 < d.stride then 0 else reachR r (a+ (d.len - 1)*d.stride)
def reachL (v:VarD):Int:=if 4 < v.dims.length∨v.slot < 0∨1073741824 < v.slot then 0 else reachR v.dims (v.slot+1)
def fitZ (x: (Int × Bool) × Int):Bool:=fitB x.1.1 x.1.2 x.2
def globalsL (m:ModelD):Int × Bool:=if 128 < m.globals.length∨m.init.length≠m.globals.length then (-1,false) else idxB (bad fitZ (m.globals.zip m.init))
def tyP (t:Int × Bool):Bool:=tyB t.1 t.2
def shapeB (s:ShapeD):Bool:= !(decide (s.room < 0∨16 < s.room∨s.fields.length < 1∨8 < s.fields.length)) && s.fields.all tyP
def chanB (m:ModelD) (s:Int):Bool:=decide (0≤s∧s < m.shapes.length)
def channelsL (m:ModelD):Int × Bool:=if 32 < m.shapes.length∨32 < m.chans.length then (-1,false) else match bad shapeB m.shapes with
 | some i=>(i,false)
 | none=>idxB (bad (chanB m) m.chans)
def ptypeB (m:ModelD) (n:Int):Bool:=decide (0≤n∧n < m.procs.length∧n≠m.claim)
def dimB (d:DimD):Bool:= !(decide (d.len < 1∨128 < d.len∨d.stride < 0∨128 < d.stride))
def varHeadB (v:VarD):Bool:= !(decide (v.scope < 0∨2 < v.scope∨v.slot < 0∨128 < v.slot∨4 < v.dims.length))
def varTailB (m:ModelD) (v:VarD):Bool:=if v.scope=2 then ptypeB m v.type else decide (v.who= -1∧v.type= -1)
def varB (m:ModelD) (v:VarD):Bool:=varHeadB v && v.dims.all dimB && varTailB m v
def isExprB (m:ModelD) (x:Int):Bool:=decide (0≤x∧x < m.exprs.length)
def opAt (m:ModelD) (x:Int):Int:=(m.exprs[x.toNat]?.map (·.op)).getD 0
def isVarB (m:ModelD) (x:Int):Bool:=isExprB m x && decide (opAt m x=2)
def fieldB (m:ModelD) (x:Int × Int):Bool:=isExprB m x.1 && decide (-1≤x.2∧x.2≤1) && (!(decide (x.2=0)) || isVarB m x.1)
def fieldsB (m:ModelD) (args mat:List Int):Bool:= !(decide (args.length < 1∨8 < args.length∨mat.length≠args.length)) && (args.zip mat).all (fieldB m)
def partsOf (op:Int):Nat:=if op=24 then 3 else if 6≤op∧op≤23 then 2 else if (3≤op∧op≤5)∨ (25≤op∧op≤30)∨ (36≤op∧op≤38) then 1 else 0
def abcL (x:ExprD):List Int:=[x.a,x.b,x.c]
def restB (x:ExprD):Bool:=((abcL x).drop (partsOf x.op)).all (fun q=>decide (q= -1))
def locsAt (m:ModelD) (n:Int):Nat:=(m.procs[n.toNat]?.map (·.locs.length)).getD 0
def paramsAt (m:ModelD) (n:Int):Int:=(m.procs[n.toNat]?.map (·.params)).getD 0
def atB (m:ModelD) (x:ExprD):Bool:= !(!(ptypeB m x.n) || decide (x.args.length=0)) && x.args.all (fun q=>decide (0≤q∧q < locsAt m x.n))
def kindB (m:ModelD) (x:ExprD):Bool:=
 if x.op=1 then fitB 32 true x.n else if x.op=2 then varB m x.v else if x.op=30 then decide (x.n=0∨x.n=1) && fieldsB m x.args x.mat
 else if x.op=38 then atB m x else if x.op=39 then ptypeB m x.n && decide ((x.args.length:Int)=paramsAt m x.n) else true
def exprB (m:ModelD) (x:ExprD):Bool:=decide (1≤x.op∧x.op≤39) && restB x && kindB m x
def moreL (x:ExprD):List Int:=if x.op=2 then (if x.v.scope=2 then [x.v.who] else []) ++ x.v.dims.map (·.i) else if x.op=30∨x.op=39 then x.args else []
def partsL (x:ExprD):List Int:=(abcL x).take (partsOf x.op) ++ moreL x
def takePart (i:Nat) (s:List Bool × Bool) (p:Int):List Bool × Bool:=if p < 0∨ (i:Int)≤p∨s.1.getD p.toNat false=true then (s.1,false) else (s.1.set p.toNat true,s.2)
def takeAll (i:Nat) (t:List Bool) (l:List Int):List Bool × Bool:=l.foldl (takePart i) (t,true)
def exprsGo (m:ModelD):List ExprD→Nat→List Bool→Int × Bool
 | [],_,_=>(0,true)
 | x :: r,i,t=>if exprB m x=true then (if (takeAll i t (partsL x)).2=true then exprsGo m r (i+1) (takeAll i t (partsL x)).1 else (i,false)) else (i,false)
def exprsHead (m:ModelD):Bool:=decide (m.procs.length < 1∨16 < m.procs.length∨m.claim < -1∨ (m.procs.length:Int)≤m.claim∨4096 < m.exprs.length)
def expressionsL (m:ModelD):Int × Bool:=if exprsHead m=true then (-1,false) else exprsGo m m.exprs 0 (List.replicate m.exprs.length false)
def frameHeadB (p:ProcD):Bool:= !(decide (128 < p.frame.length∨p.init.length≠p.frame.length∨p.params < 0∨ (p.frame.length:Int) < p.params))
def frameTailB (m:ModelD) (p:ProcD):Bool:=decide (0≤p.active∧p.active≤16∧1≤p.prio∧p.prio≤255∧ -1≤p.provided∧p.provided < m.exprs.length)
def frameB (m:ModelD) (p:ProcD):Bool:=frameHeadB p && (p.frame.zip p.init).all fitZ && frameTailB m p
def placesHeadB (p:ProcD):Bool:= !(decide (p.locs.length < 1∨256 < p.locs.length∨p.start < 0∨ (p.locs.length:Int)≤p.start∨p.final < 0∨ (p.locs.length:Int)≤p.final))
def toB (n:Nat) (t:TransD):Bool:=decide (0≤t.to∧t.to < n)
def locHeadB (p:ProcD) (i:Nat) (l:LocD):Bool:= !(decide (8 < l.esc.length∨ (l.dstep=true∧l.atomic=true)∨ ((i:Int)=p.final∧ (0 < l.out.length∨0 < l.esc.length))))
def escB (n:Nat) (l:List TransD):Bool:=decide (l.length≠0) && l.all (toB n)
def locB (p:ProcD) (i:Nat) (l:LocD):Bool:=locHeadB p i l && l.out.all (toB p.locs.length) && l.esc.all (escB p.locs.length)
def locB' (p:ProcD) (x:LocD × Nat):Bool:=locB p x.2 x.1
def manyL (l:LocD):Nat:=l.out.length+ (l.esc.map List.length).sum
def manyP (p:ProcD):Nat:=(p.locs.map manyL).sum
def placesB (p:ProcD):Bool:=placesHeadB p && p.locs.zipIdx.all (locB' p) && decide (manyP p≤1024)
def looksLocB (l:LocD):Bool:= !(decide (0 < l.esc.length) || l.atomic || l.dstep)
def looksOnB (p:ProcD):Bool:=p.locs.all looksLocB && decide (p.frame.length=0∧p.params=0∧p.active=0∧p.provided= -1)
def procB (m:ModelD) (x:ProcD × Nat):Bool:=frameB m x.1 && placesB x.1 && (!(decide ((x.2:Int)=m.claim)) || looksOnB x.1)
def procsL (m:ModelD):Int × Bool:=idxB (bad (procB m) m.procs.zipIdx)
def activeS (m:ModelD):Int:=(m.procs.map (·.active)).sum
def activeL (m:ModelD):Int × Bool:=(-1,decide (activeS m≤16))
def scopeAt (m:ModelD) (x:Int):Int:=(m.exprs[x.toNat]?.map (·.v.scope)).getD 0
def settableB (m:ModelD) (x:Int):Bool:=isVarB m x && decide (scopeAt m x≠2)
def recvB (m:ModelD) (x:Int × Int):Bool:= !(decide (x.2=0)) || settableB m x.1
def receivesB (m:ModelD) (s:StmtD):Bool:=fieldsB m s.args s.mat && (s.args.zip s.mat).all (recvB m)
structure Ask where
 hasA:Bool
 hasB:Bool
 mostN:Int
 least:Int
 most:Int
 matches_:Bool
 text:Bool
def askOf (m:ModelD) (k:Int):Option Ask:=
 if k=1∨k=3 then some ⟨true,false,0,0,0,false,false⟩ else if k=2 then some ⟨true,true,0,0,0,false,false⟩ else if k=4 then some ⟨false,false,0,0,-1,false,true⟩
 else if k=5 then some ⟨true,false,1,1,8,false,false⟩ else if k=6 then some ⟨true,false,3,1,8,true,false⟩ else if k=7∨k=8 then some ⟨false,false,0,0,0,false,false⟩
 else if k=9 then some ⟨true,false,(m.shapes.length:Int) - 1,0,0,false,false⟩ else none
def askAB (m:ModelD) (s:StmtD) (q:Ask):Bool:= !(decide (q.hasA≠decide (s.a≠ -1)) || (q.hasA && !isExprB m s.a) || decide (q.hasB≠decide (s.b≠ -1)) || (q.hasB && !isExprB m s.b))
def askN (s:StmtD) (q:Ask):Bool:= !(decide (s.n < 0∨q.mostN < s.n∨ (s.args.length:Int) < q.least∨ (0≤q.most∧q.most < (s.args.length:Int))∨ (q.matches_=false∧0 < s.mat.length)∨ (q.text=false∧s.text.size≠0)∨256 < s.text.size))
def stmtB (m:ModelD) (s:StmtD):Bool:=match askOf m s.kind with
 | none=>false
 | some q=>askAB m s q && askN s q && s.args.all (isExprB m) && (!(decide (s.kind=2∨s.kind=9)) || settableB m s.a) && (!q.matches_ || receivesB m s)
def claimsB (k:Int):Bool:=decide (k=1∨k=3∨k=7∨k=8)
def frameAt (m:ModelD) (n:Int):Nat:=(m.procs[n.toNat]?.map (·.frame.length)).getD 0
def roomL (m:ModelD) (proc:Nat) (v:VarD):Int:=if v.scope=1 then frameAt m proc else if v.scope=2 then frameAt m v.type else m.globals.length
def liesB (m:ModelD) (proc:Nat) (v:VarD):Bool:= !(decide (v.scope=1∧ (proc:Int)=m.claim)) && decide (reachL v≤roomL m proc v)
def useB (m:ModelD) (proc:Nat) (x:ExprD):Bool:=if x.op=39 then false else if x.op=31 then decide ((proc:Int)≠m.claim) else if x.op=2 then liesB m proc x.v else true
def usesF (m:ModelD) (proc:Nat):Nat→List Int→List Int→Bool × List Int
 | 0,seen,_=>(false,seen)
 | f+1,seen,left=>match left.getLast? with
   | none=>(true,seen)
   | some q=>if seen[q.toNat]? =some ((proc:Int)+1) then usesF m proc f seen left.dropLast else match m.exprs[q.toNat]? with
     | none=>(false,seen)
     | some x=>if useB m proc x=true then usesF m proc f (seen.set q.toNat (proc+1)) (left.dropLast ++ partsL x) else (false,seen.set q.toNat (proc+1))
def usesL (m:ModelD) (proc:Nat) (seen:List Int) (top:Int):Bool × List Int:=usesF m proc 70000 seen [top]
def stopF {σ α:Type} (f:σ→α→Bool × σ):List α→σ→Bool × σ
 | [],s=>(true,s)
 | x :: r,s=>if (f s x).1=true then stopF f r (f s x).2 else (false,(f s x).2)
def argsAt (m:ModelD) (x:Int):List Int:=(m.exprs[x.toNat]?.map (·.args)).getD []
def topL (m:ModelD) (proc:Nat) (whole:Bool) (x:Int):List Int:=if x < 0 then [] else if whole=true∧opAt m x=39∧ (proc:Int)≠m.claim then argsAt m x else [x]
def topsL (m:ModelD) (proc:Nat) (s:StmtD):List Int:=topL m proc (decide (s.kind=1)) s.a ++ topL m proc (decide (s.kind=2)) s.b ++ s.args
def usedByL (m:ModelD) (proc:Nat) (seen:List Int) (s:StmtD):Bool × List Int:=stopF (usesL m proc) (topsL m proc s) seen
def wayL (m:ModelD) (proc:Nat) (seen:List Int) (t:TransD):Bool × List Int:=if (stmtB m t.s && (!(decide ((proc:Int)=m.claim)) || claimsB t.s.kind))=true then usedByL m proc seen t.s else (false,seen)
def waysL (m:ModelD) (proc:Nat) (seen:List Int) (l:List TransD):Bool × List Int:=stopF (wayL m proc) l seen
def locL (m:ModelD) (proc:Nat) (seen:List Int) (l:LocD):Bool × List Int:=stopF (waysL m proc) (l.out :: l.esc) seen
def procL (m:ModelD) (seen:List Int) (x:ProcD × Nat):Bool × List Int:=
 if (stopF (locL m x.2) x.1.locs seen).1=true then (if 0≤x.1.provided then usesL m x.2 (stopF (locL m x.2) x.1.locs seen).2 x.1.provided else (true,(stopF (locL m x.2) x.1.locs seen).2)) else (false,(stopF (locL m x.2) x.1.locs seen).2)
def statGo (m:ModelD):List (ProcD × Nat)→List Int→Int × Bool
 | [],_=>(0,true)
 | x :: r,s=>if (procL m s x).1=true then statGo m r (procL m s x).2 else (x.2,false)
def statementsL (m:ModelD):Int × Bool:=statGo m m.procs.zipIdx (List.replicate m.exprs.length 0)
def checkL (m:ModelD):Int × Int × Int:=
 if (globalsL m).2=false then (40,1,(globalsL m).1) else if (channelsL m).2=false then (40,2,(channelsL m).1) else if (expressionsL m).2=false then (40,3,(expressionsL m).1)
 else if (procsL m).2=false then (40,4,(procsL m).1) else if (activeL m).2=false then (40,5,(activeL m).1) else if (statementsL m).2=false then (40,6,(statementsL m).1) else (0,0,0)
theorem exprsGo_ok {m:ModelD}:∀ (l:List ExprD) (i:Nat) (t:List Bool),(exprsGo m l i t).2=true→∀k (hk:k < l.length),exprB m l[k]=true∧∀p ∈ partsL l[k],0≤p∧p < ((i+k:Nat):Int)
 | [],_,_,_,k,hk=>by simp at hk
 | x :: r,i,t,h,k,hk=>by
   unfold exprsGo at h;split at h
   · rename_i h1
     split at h
     · rename_i h2
       cases k with
       | zero=>
         refine ⟨h1,fun p hp=> ?_⟩;have key:∀ (l:List Int) (s:List Bool × Bool),(l.foldl (takePart i) s).2=true→s.2=true∧∀p ∈ l,0≤p∧p < (i:Int):=by
          intro l
          induction l with
          | nil=>intro s h;exact ⟨h,fun p hp=>by cases hp⟩
          | cons q r ih=>
            intro s h;rw [List.foldl_cons] at h;obtain ⟨h3,h4⟩:=ih _ h;unfold takePart at h3;split at h3
            · cases h3
            · rename_i h5
              refine ⟨h3,fun p hp=> ?_⟩;rcases List.mem_cons.1 hp with rfl | hp
              · omega
              · exact h4 p hp
         have:=(key (partsL x) (t,true) h2).2 p (by simpa using hp);simpa using this
       | succ k=>
         have:=exprsGo_ok r (i+1) _ h k (by simpa using hk);refine ⟨this.1,fun p hp=> ?_⟩;have h5:=this.2 p (by simpa using hp);refine ⟨h5.1, ?_⟩;have h6:=h5.2;omega
     · cases h
   · cases h
end Go.Proofs.YtnoibjahliafpaaDoor
namespace Go.Proofs.YtnoibjahliafpaaDoor
open Go.ChangeShapes Go.WideShapes Go.ChangeAt Go.RowKit
structure ChanD where
 shape:Int
 queue:List (List Int)
structure ProcessD where
 type:Int
 loc:Int
 prio:Int
 frame:List Int
structure StateD where
 globals:List Int
 chans:List ChanD
 procs:List ProcessD
 last:Int
 alone:Int
 claim:Int
def msgAt (B:Nat) (w:World) (g a:Nat) (l:List Int):Prop:=Sli B w g a 1 (intAt w) l
structure chanAt (B:Nat) (w:World) (g a:Nat) (c:ChanD):Prop where
 c0:w.cell? ⟨g,a,none⟩=some (.int .i64 c.shape)
 queue:Sli B w g (a+1) 1 (msgAt B w) c.queue
structure processAt (B:Nat) (w:World) (g a:Nat) (p:ProcessD):Prop where
 c0:w.cell? ⟨g,a,none⟩=some (.int .i64 p.type)
 c1:w.cell? ⟨g,a+1,none⟩=some (.int .i64 p.loc)
 c2:w.cell? ⟨g,a+2,none⟩=some (.int .i64 p.prio)
 frame:Sli B w g (a+3) 1 (intAt w) p.frame
section
variable {B:Nat} {w w':World} (hb:Below B w w')
include hb
theorem msgAt.below {g a:Nat} {x:List Int} (hg:g < B) (h:msgAt B w g a x):msgAt B w' g a x:=Sli.below hb hg h fun _ _ _ hg=>intAt.below hb hg
theorem chanAt.below {g a:Nat} {x:ChanD} (hg:g < B) (h:chanAt B w g a x):chanAt B w' g a x:=⟨(hb.cell hg).trans h.c0,h.queue.below hb hg fun _ _ _ hg=>msgAt.below hb hg⟩
theorem processAt.below {g a:Nat} {x:ProcessD} (hg:g < B) (h:processAt B w g a x):processAt B w' g a x:=⟨(hb.cell hg).trans h.c0,(hb.cell hg).trans h.c1,(hb.cell hg).trans h.c2,h.frame.below hb hg fun _ _ _ hg=>intAt.below hb hg⟩
end
structure SH where
 go:Option Addr
 gc:Nat
 co:Option Addr
 cc:Nat
 po:Option Addr
 pc:Nat
structure SD (B:Nat) (w:World) (h:SH) (s:StateD):Prop where
 globals:Row B h.go 1 (intAt w) s.globals
 chans:Row B h.co 2 (chanAt B w) s.chans
 procs:Row B h.po 4 (processAt B w) s.procs
theorem SD.below {B:Nat} {w w':World} {h:SH} {s:StateD} (hm:SD B w h s) (hb:Below B w w'):SD B w' h s:=
 ⟨hm.globals.mono fun _ _ _ hg=>intAt.below hb hg,hm.chans.mono fun _ _ _ hg=>chanAt.below hb hg,hm.procs.mono fun _ _ _ hg=>processAt.below hb hg⟩
section
variable {B B':Nat} {w:World} (hB:B≤B')
include hB
theorem Row.lift' {α:Type} {o:Option Addr} {k:Nat} {R R':Nat→Nat→α→Prop} {l:List α} (h:Row B o k R l) (hR:∀g a x,g < B→R g a x→R' g a x):Row B' o k R' l:=(h.mono hR).up hB
theorem Sli.lift' {α:Type} {g a k:Nat} {R R':Nat→Nat→α→Prop} {l:List α} (h:Sli B w g a k R l) (hR:∀g a x,g < B→R g a x→R' g a x):Sli B' w g a k R' l:=by
 obtain ⟨o,c,h1,h2⟩:=h;exact ⟨o,c,h1,h2.lift' hB hR⟩
theorem msgAt.lift {g a:Nat} {x:List Int} (h:msgAt B w g a x):msgAt B' w g a x:=Sli.lift' hB h fun _ _ _ _ h=>h
theorem chanAt.lift {g a:Nat} {x:ChanD} (h:chanAt B w g a x):chanAt B' w g a x:=⟨h.c0,h.queue.lift' hB fun _ _ _ _ h=>h.lift hB⟩
theorem processAt.lift {g a:Nat} {x:ProcessD} (h:processAt B w g a x):processAt B' w g a x:=⟨h.c0,h.c1,h.c2,h.frame.lift' hB fun _ _ _ _ h=>h⟩
theorem SD.lift {h:SH} {s:StateD} (hm:SD B w h s):SD B' w h s:=⟨hm.globals.lift' hB fun _ _ _ _ h=>h,hm.chans.lift' hB fun _ _ _ _ h=>h.lift hB,hm.procs.lift' hB fun _ _ _ _ h=>h.lift hB⟩
end
def sCells (h:SH) (s:StateD):Array Value:=#[.slice h.go s.globals.length h.gc,.slice h.co s.chans.length h.cc,.slice h.po s.procs.length h.pc,.int .i64 s.last,.int .i64 s.alone,.int .i64 s.claim]
def sV (h:SH) (s:StateD):Value:= .agg (sCells h s)
structure Sk (B:Nat) (w:World) (p o:Nat) (h:SH) (s:StateD):Prop where
 c0:w.cell? ⟨p,o,none⟩=some (.slice h.go s.globals.length h.gc)
 c1:w.cell? ⟨p,o+1,none⟩=some (.slice h.co s.chans.length h.cc)
 c2:w.cell? ⟨p,o+2,none⟩=some (.slice h.po s.procs.length h.pc)
 c3:w.cell? ⟨p,o+3,none⟩=some (.int .i64 s.last)
 c4:w.cell? ⟨p,o+4,none⟩=some (.int .i64 s.alone)
 c5:w.cell? ⟨p,o+5,none⟩=some (.int .i64 s.claim)
 le:B≤w.heap.size
 lt:p < w.heap.size
 sd:SD B w h s
theorem Sk.below {B p o:Nat} {w w':World} {h:SH} {s:StateD} (hk:Sk B w p o h s) (hb:Below w.heap.size w w'):Sk B w' p o h s:=
 ⟨(hb.cell hk.lt).trans hk.c0,(hb.cell hk.lt).trans hk.c1,(hb.cell hk.lt).trans hk.c2,(hb.cell hk.lt).trans hk.c3,(hb.cell hk.lt).trans hk.c4,(hb.cell hk.lt).trans hk.c5,Nat.le_trans hk.le hb.size,Nat.lt_of_lt_of_le hk.lt hb.size,hk.sd.below (hb.mono (hk.le))⟩
def fitsL (t:List (Int × Bool)) (l:List Int):Bool:=decide (l.length=t.length) && (t.zip l).all fitZ
def shapeAtD (m:ModelD) (n:Int):Option ShapeD:=m.shapes[n.toNat]?
def chanHeadB (m:ModelD) (c:ChanD):Bool:=decide (0≤c.shape∧c.shape < m.shapes.length)
def chanFB (m:ModelD) (c:ChanD):Bool:=match m.shapes[c.shape.toNat]? with
 | some s=>decide ((c.queue.length:Int)≤s.room) && c.queue.all (fitsL s.fields)
 | none=>false
def chanMayB (m:ModelD) (c:ChanD):Bool:=chanHeadB m c && chanFB m c
def procHeadB (m:ModelD) (p:ProcessD):Bool:=decide (0≤p.type∧p.type < m.procs.length∧p.type≠m.claim)
def procFB (m:ModelD) (p:ProcessD):Bool:=match m.procs[p.type.toNat]? with
 | some t=>decide (0≤p.loc∧p.loc < t.locs.length∧p.prio=t.prio) && fitsL t.frame p.frame
 | none=>false
def procMayB (m:ModelD) (p:ProcessD):Bool:=procHeadB m p && procFB m p
def claimLocs (m:ModelD):Nat:=(m.procs[m.claim.toNat]?.map (·.locs.length)).getD 0
def mayHeadB (m:ModelD) (s:StateD):Bool:=fitsL m.globals s.globals && decide (s.chans.length≤32∧s.procs.length≤16)
def mayTailB (m:ModelD) (s:StateD):Bool:=decide (0≤s.last∧s.last < 16∧ -1≤s.alone∧s.alone < s.procs.length) && (if m.claim < 0 then decide (s.claim= -1) else decide (0≤s.claim∧s.claim < claimLocs m))
def mayB (m:ModelD) (s:StateD):Bool:=mayHeadB m s && s.chans.all (chanMayB m) && s.procs.all (procMayB m) && mayTailB m s
def goodB (m:ModelD):Bool:=decide ((checkL m).1=0)
def stateE (m:ModelD) (s:StateD):Int:=if goodB m=true then (if mayB m s=true then 0 else 41) else 40
end Go.Proofs.YtnoibjahliafpaaDoor
namespace Go.Proofs.YtnoibjahliafpaaDoor
open Go.ChangeShapes Go.WideShapes Go.ChangeAt Go.RowKit
structure GF (m:ModelD):Prop where
 globals:m.init.length=m.globals.length∧∀z ∈ m.globals.zip m.init,fitZ z=true
 shapes:∀s ∈ m.shapes,shapeB s=true
 procs:∀z ∈ m.procs.zipIdx,procB m z=true
theorem good_gf {m:ModelD} (h:goodB m=true):GF m:=by
 unfold goodB checkL at h;rw [decide_eq_true_eq] at h;by_cases h1: (globalsL m).2=false
 · rw [if_pos h1] at h;simp at h
 rw [if_neg h1] at h;by_cases h2: (channelsL m).2=false
 · rw [if_pos h2] at h;simp at h
 rw [if_neg h2] at h;by_cases h3: (expressionsL m).2=false
 · rw [if_pos h3] at h;simp at h
 rw [if_neg h3] at h;by_cases h4: (procsL m).2=false
 · rw [if_pos h4] at h;simp at h
 clear h h3;refine ⟨?_, ?_, ?_⟩
 · unfold globalsL at h1;split at h1
   · simp at h1
   · rename_i h5
     refine ⟨by omega, ?_⟩;cases hb:bad fitZ (m.globals.zip m.init) with
     | none=>exact bad_all hb
     | some i=>rw [hb] at h1;simp [idxB] at h1
 · unfold channelsL at h2;split at h2
   · simp at h2
   · cases hb:bad shapeB m.shapes with
     | none=>exact bad_all hb
     | some i=>rw [hb] at h2;simp at h2
 · unfold procsL at h4;cases hb:bad (procB m) m.procs.zipIdx with
   | none=>exact bad_all hb
   | some i=>rw [hb] at h4;simp [idxB] at h4
end Go.Proofs.YtnoibjahliafpaaDoor
