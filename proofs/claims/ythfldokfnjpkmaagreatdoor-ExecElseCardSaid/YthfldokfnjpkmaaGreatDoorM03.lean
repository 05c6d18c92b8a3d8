/- What a proctype uses: how much is left to be looked at. -/
import Derived.Test.YthfldokfnjpkmaaGreatDoorM01
import Derived.Test.YthfldokfnjpkmaaGreatDoorM02
import Derived.Deep.RegionHeld3
import Derived.Lib.SmallJoins
set_option linter.unusedVariables false
set_option linter.unusedSimpArgs false
namespace Go.Proofs.YthfldokfnjpkmaaGreatDoor
def toGo (m:ModelD) (proc:Nat) (seen:List Int):Nat:=((m.exprs.zip seen).map fun z=>if z.2= (proc:Int)+1 then 0 else (partsL z.1).length).sum
def partsN (l:List ExprD):Nat:=(l.map fun x=>(partsL x).length).sum
theorem toGo_le (m:ModelD) (proc:Nat) (seen:List Int):toGo m proc seen≤partsN m.exprs:=by
 unfold toGo partsN;generalize m.exprs=l
 induction l generalizing seen with
 | nil=>simp
 | cons x r ih=>
   cases seen with
   | nil=>simp
   | cons s t=>
     have:=ih t;simp only [List.zip_cons_cons,List.map_cons,List.sum_cons];split <;> omega
theorem toGo_set {m:ModelD} {proc q:Nat} {seen:List Int} {x:ExprD} {v:Int} (hx:m.exprs[q]? =some x) (hs:seen[q]? =some v) (hv:v≠ (proc:Int)+1):
 toGo m proc (seen.set q ((proc:Int)+1))+ (partsL x).length=toGo m proc seen:=by
 unfold toGo;generalize m.exprs=l at hx
 induction l generalizing seen q with
 | nil=>simp at hx
 | cons y r ih=>
   cases seen with
   | nil=>simp at hs
   | cons s t=>
     cases q with
     | zero=>
       simp only [List.getElem?_cons_zero,Option.some.injEq] at hx hs;subst hx hs;simp only [List.set_cons_zero,List.zip_cons_cons,List.map_cons,List.sum_cons,if_pos,if_neg hv];omega
     | succ q=>
       simp only [List.getElem?_cons_succ] at hx hs;have:=ih hs hx;simp only [List.set_cons_succ,List.zip_cons_cons,List.map_cons,List.sum_cons];omega
theorem takeAll_count {i:Nat}:∀ (l:List Int) (s:List Bool × Bool),i≤s.1.length→ (l.foldl (takePart i) s).2=true→s.2=true∧ (l.foldl (takePart i) s).1.count true=s.1.count true+l.length∧ (l.foldl (takePart i) s).1.length=s.1.length:=by
 intro l
 induction l with
 | nil=>intro s _ h;exact ⟨h,by simp,rfl⟩
 | cons q r ih=>
   intro s hi h;rw [List.foldl_cons] at h ⊢;have hlen: (takePart i s q).1.length=s.1.length:=by unfold takePart;split <;> simp
   obtain ⟨h1,h2,h3⟩:=ih _ (by rw [hlen];exact hi) h;rw [h2,h3];unfold takePart at h1 ⊢;split at h1
   · cases h1
   · rename_i hq
     rw [if_neg hq];have hg:s.1.getD q.toNat false=false:=by
      cases hg:s.1.getD q.toNat false
      · rfl
      · exact absurd (.inr (.inr hg)) hq
     have hl:q.toNat < s.1.length:=by
      have h5:¬ (q < 0∨ (i:Int)≤q):=fun h=>hq (by rcases h with h | h;exact .inl h;exact .inr (.inl h))
      omega
     have hf:s.1[q.toNat]=false:=by
      rw [List.getD_eq_getElem?_getD,List.getElem?_eq_getElem hl] at hg;exact hg
     refine ⟨h1, ?_,by simp⟩;rw [List.count_set hl,hf];simp;omega
theorem exprsGo_count {m:ModelD}:∀ (l:List ExprD) (i:Nat) (t:List Bool),i+l.length≤t.length→ (exprsGo m l i t).2=true→partsN l+t.count true≤t.length
 | [],_,t,_,_=>by have:=List.count_le_length (a:=true) (l:=t);simp [partsN];omega
 | x :: r,i,t,hi,h=>by
   rw [List.length_cons] at hi;unfold exprsGo at h;split at h
   · split at h
     · rename_i h2
       obtain ⟨-,h4,h5⟩:=takeAll_count (partsL x) (t,true) (by simp only;omega) h2;have:=exprsGo_count r (i+1) _ (by unfold takeAll;rw [h5];simp only;omega) h;unfold takeAll at this;rw [h4,h5] at this;simp only at this;have e:partsN (x :: r)= (partsL x).length+partsN r:=by unfold partsN;simp
       rw [e];omega
     · cases h
   · cases h
structure EX (m:ModelD):Prop where
 le:m.exprs.length≤4096
 ok:∀ (k:Nat) (x:ExprD),m.exprs[k]? =some x→exprB m x=true∧∀p ∈ partsL x,0≤p∧p < (k:Int)
 sum:partsN m.exprs≤4096
theorem EX.of {m:ModelD} (h: (expressionsL m).2=true):EX m:=by
 unfold expressionsL at h;split at h
 · cases h
 · rename_i hh
   have hl:m.exprs.length≤4096:=by
    unfold exprsHead at hh;rw [decide_eq_true_eq] at hh;omega
   refine ⟨hl,fun k x hx=> ?_, ?_⟩
   · obtain ⟨hk,rfl⟩:=List.getElem?_eq_some_iff.1 hx;have:=exprsGo_ok _ _ _ h k hk;rw [Nat.zero_add] at this;exact this
   · have:=exprsGo_count _ _ _ (by rw [List.length_replicate];omega) h;rw [List.length_replicate] at this;omega
theorem usesF_nil {m:ModelD} {proc f:Nat} {seen:List Int}:usesF m proc (f+1) seen []= (true,seen):=rfl
theorem usesF_seen {m:ModelD} {proc f q:Nat} {seen l:List Int} (h:seen[q]? =some ((proc:Int)+1)):usesF m proc (f+1) seen (l ++ [(q:Int)])=usesF m proc f seen l:=by
 rw [usesF,List.getLast?_concat];simp [h]
theorem usesF_no {m:ModelD} {proc f q:Nat} {seen l:List Int} {x:ExprD} (h:seen[q]? ≠some ((proc:Int)+1)) (hx:m.exprs[q]? =some x) (hu:useB m proc x=false):usesF m proc (f+1) seen (l ++ [(q:Int)])= (false,seen.set q ((proc:Int)+1)):=by
 rw [usesF,List.getLast?_concat];simp [h,hx,hu]
theorem usesF_yes {m:ModelD} {proc f q:Nat} {seen l:List Int} {x:ExprD} (h:seen[q]? ≠some ((proc:Int)+1)) (hx:m.exprs[q]? =some x) (hu:useB m proc x=true):usesF m proc (f+1) seen (l ++ [(q:Int)])=usesF m proc f (seen.set q ((proc:Int)+1)) (l ++ partsL x):=by
 rw [usesF,List.getLast?_concat];simp [h,hx,hu]
end Go.Proofs.YthfldokfnjpkmaaGreatDoor
namespace Go.Proofs.YthfldokfnjpkmaaGreatDoor
open Go.ChangeShapes Go.WideShapes Go.ChangeAt Go.RowKit
theorem partsOf_le (op:Int):partsOf op≤3:=by unfold partsOf;(repeat' split) <;> omega
structure XC (w:World) (g a:Nat) (x:ExprD) (o1:Option Addr) (p1:Nat) (o2:Option Addr) (p2:Nat) (o3:Option Addr) (p3:Nat):Prop where
 c0:w.cell? ⟨g,a,none⟩=some (.int .i64 x.op)
 c1:w.cell? ⟨g,a+1,none⟩=some (.int .i64 x.n)
 c2:w.cell? ⟨g,a+2,none⟩=some (.int .i64 x.a)
 c3:w.cell? ⟨g,a+3,none⟩=some (.int .i64 x.b)
 c4:w.cell? ⟨g,a+4,none⟩=some (.int .i64 x.c)
 v0:w.cell? ⟨g,a+5,none⟩=some (.int .i64 x.v.scope)
 v1:w.cell? ⟨g,a+5+1,none⟩=some (.int .i64 x.v.slot)
 v2:w.cell? ⟨g,a+5+2,none⟩=some (.int .i64 x.v.who)
 v3:w.cell? ⟨g,a+5+3,none⟩=some (.int .i64 x.v.type)
 v4:w.cell? ⟨g,a+5+4,none⟩=some (.slice o1 x.v.dims.length p1)
 c6:w.cell? ⟨g,a+10,none⟩=some (.slice o2 x.args.length p2)
 c7:w.cell? ⟨g,a+11,none⟩=some (.slice o3 x.mat.length p3)
theorem exprAt.xc {B g a:Nat} {w:World} {x:ExprD} (h:exprAt B w g a x):∃o1 p1 o2 p2 o3 p3,XC w g a x o1 p1 o2 p2 o3 p3∧Row B o1 3 (dimAt w) x.v.dims∧Row B o2 1 (intAt w) x.args∧Row B o3 1 (intAt w) x.mat:=by
 obtain ⟨o1,p1,d1,d2⟩:=h.v.dims;obtain ⟨o2,p2,a1,a2⟩:=h.args;obtain ⟨o3,p3,m1,m2⟩:=h.mat;exact ⟨o1,p1,o2,p2,o3,p3,⟨h.c0,h.c1,h.c2,h.c3,h.c4,h.v.c0,h.v.c1,h.v.c2,h.v.c3,d1,a1,m1⟩,d2,a2,m2⟩
theorem XC.below {B g a:Nat} {w w':World} {x:ExprD} {o1 o2 o3:Option Addr} {p1 p2 p3:Nat} (h:XC w g a x o1 p1 o2 p2 o3 p3) (hg:g < B) (hb:Below B w w'):XC w' g a x o1 p1 o2 p2 o3 p3:=
 ⟨(hb.cell hg).trans h.c0,(hb.cell hg).trans h.c1,(hb.cell hg).trans h.c2,(hb.cell hg).trans h.c3,(hb.cell hg).trans h.c4,(hb.cell hg).trans h.v0,(hb.cell hg).trans h.v1,(hb.cell hg).trans h.v2,(hb.cell hg).trans h.v3,(hb.cell hg).trans h.v4,(hb.cell hg).trans h.c6,(hb.cell hg).trans h.c7⟩
set_option maxRecDepth 100000 in
theorem expr_range {B p g a:Nat} {h:MH} {m:ModelD} {x:ExprD} (w:World) (hk:Ck B w p h m) (hx:exprAt B w g a x) (hg:g < B) (hbad:x.op < 1∨39 < x.op):
 Calls Tryz.prog 171 #[.pointer (some ⟨p,0,none⟩),.pointer (some ⟨g,a,none⟩)] w fun e w'=>e= .returned (.bool (exprB m x))∧Below w.heap.size w w':=by
 have HV:Hid (exprB m x=false):=Lib.hid (by unfold exprB;rw [decide_eq_false (by omega)];rfl);have c0:=hx.c0;clear hx hk;go_enter Tryz.func171,Tryz.ntmps171;go_wp2
 all_goals first | (exfalso;omega) | (go_ret;exact ⟨retB HV.out.symm,Below.refl _ _⟩)
theorem abc_at {w W:World} {x:ExprD} (h:Bx w #[.int .i64 x.a,.int .i64 x.b,.int .i64 x.c] 146 W) {k:Nat} (hk:k < 3):∃q,W.cell? ⟨w.heap.size,k,none⟩=some (.int .i64 q)∧ (abcL x)[k]? =some q:=by
 match k,hk with
 | 0,_=>exact ⟨x.a,h.cell rfl,rfl⟩
 | 1,_=>exact ⟨x.b,h.cell rfl,rfl⟩
 | 2,_=>exact ⟨x.c,h.cell rfl,rfl⟩
theorem rest_bad {x:ExprD} {k:Nat} {q:Int} (hk:partsOf x.op≤k) (h: (abcL x)[k]? =some q) (hq:q≠ -1):restB x=false:=by
 unfold restB;rw [List.all_eq_false];refine ⟨q, ?_,by simpa using hq⟩;rw [List.mem_iff_getElem?];exact ⟨k - partsOf x.op,by rw [List.getElem?_drop,show partsOf x.op+ (k - partsOf x.op)=k by omega];exact h⟩
theorem rest_ok {x:ExprD} (h:∀k q,partsOf x.op≤k→k < 3→ (abcL x)[k]? =some q→q= -1):restB x=true:=by
 unfold restB;rw [List.all_eq_true];intro q hq;obtain ⟨i,hi⟩:=List.mem_iff_getElem?.1 hq;rw [List.getElem?_drop] at hi;have h3:=(List.getElem?_eq_some_iff.1 hi).1;have:=h (partsOf x.op+i) q (by omega) (by simpa [abcL] using h3) hi;simp [this]
set_option maxHeartbeats 1000000 in
set_option maxRecDepth 100000 in
theorem expr_rest {B p g a:Nat} {h:MH} {m:ModelD} {x:ExprD} (w:World) (hk:Ck B w p h m) (hx:exprAt B w g a x) (hg:g < B) (hok:1≤x.op∧x.op≤39) (hrest:restB x=false):
 Calls Tryz.prog 171 #[.pointer (some ⟨p,0,none⟩),.pointer (some ⟨g,a,none⟩)] w fun e w'=>e= .returned (.bool (exprB m x))∧Below w.heap.size w w':=by
 have HK:=Lib.hid hk;obtain ⟨o1,p1,o2,p2,o3,p3,hxc,hd1,hd2,hd3⟩:=hx.xc;have HXC:=Lib.hid hxc;have HD:=Lib.hid (And.intro hd1 (And.intro hd2 hd3));have hgw:g < w.heap.size:=by have:=hk.le;have:=hk.lt;omega
 have HR:=Lib.hid hrest;obtain ⟨k1,k2⟩:=hok;have c0:=hxc.c0;have HS:Hid (∀w',Below w.heap.size w w'→ (Below w.heap.size w w'∧w'.cell? ⟨g,a+2,none⟩=some (.int .i64 x.a)∧w'.cell? ⟨g,a+3,none⟩=some (.int .i64 x.b)∧w'.cell? ⟨g,a+4,none⟩=some (.int .i64 x.c))):=Lib.hid fun w' hb=>
  have h:=HXC.out.below hgw hb
  ⟨hb,h.c2,h.c3,h.c4⟩
 clear hxc hd1 hd2 hd3 hx hk hrest;go_enter Tryz.func171,Tryz.ntmps171;go_wp2_with fail
 go_region_held3 (fun w'=>Below w.heap.size w w'∧w'.cell? ⟨g,a+2,none⟩=some (.int .i64 x.a)∧w'.cell? ⟨g,a+3,none⟩=some (.int .i64 x.b)∧w'.cell? ⟨g,a+4,none⟩=some (.int .i64 x.c))
  (first | assumption | with_reducible exact HS.out _ (Below.refl _ _).drew | with_reducible exact HS.out _ (by assumption) | with_reducible exact HS.out _ (Below.alloc (And.left (by assumption)) (Below.size (And.left (by assumption))) _) | with_reducible exact HS.out _ (Below.drew (Below.alloc (Below.refl _ _) (Nat.le_refl _) _)))
  (fail)
 have HX:Hid (Bx w #[.int .i64 x.a,.int .i64 x.b,.int .i64 x.c] 146 (w.alloc (Obj.cells #[.int .i64 x.a,.int .i64 x.b,.int .i64 x.c] 146)).drew):=Lib.hid ((Bx.new w _ _).below (Below.refl _ _).drew);generalize (w.alloc (Obj.cells #[.int .i64 x.a,.int .i64 x.b,.int .i64 x.c] 146)).drew=W at HX ⊢;have HW:=Lib.hid (HXC.out.below hgw HX.out.bel);have HKW:=Lib.hid (HK.out.bx HX.out);have d0:=HW.out.c0;have d1:=HW.out.c1;clear HS c0;go_wp2_with fail;refine (partsOfC x.op W).mono ?_;rintro e w' ⟨rfl,rfl⟩;have hp3:=partsOf_le x.op;go_wp2_with fail
 go_loop [6] (fun iv=>∃k:Nat,iv= .int .i64 k∧partsOf x.op≤k∧k≤3∧Hid (∀j q,partsOf x.op≤j→j < k→ (abcL x)[j]? =some q→q= -1)) (fun iv=>3 - (intOf iv).toNat)
 case atStart=>exact ⟨partsOf x.op,rfl,Nat.le_refl _,hp3,Lib.hid fun j q h1 h2=>by omega⟩
 case round=>
  obtain ⟨k,rfl,hk1,hk2,HJ⟩:=hrel;have hk0: (0:Int)≤k:=by omega
  by_cases hlt:k < 3
  · have hlti: (k:Int) < 3:=by omega
    obtain ⟨q,hq1,hq2⟩:=abc_at HX.out hlt;have HQ:=Lib.hid hq2;clear hq2;by_cases hqe:q= -1
    · have hqb: (q != -1)=false:=by simp [hqe]
      have HQE:=Lib.hid hqe;clear hqe;go_wp2_with fail;go_round;case rel=>exact ⟨k+1,by go_num,by omega,by omega,Lib.hid fun j u h1 h2 h3=>by
       by_cases e:j=k
       · subst e;rw [HQ.out] at h3;injection h3 with h3
         rw [←h3,HQE.out]
       · exact HJ.out j u h1 (by omega) h3⟩
      case measure=>simp [intOf];omega
    · have HF:=Lib.hid (rest_bad hk1 HQ.out hqe);have hqb: (q != -1)=true:=by simp [hqe]
      clear hqe;go_wp2_with fail;go_ret;exact ⟨retB (by unfold exprB;rw [HF.out];simp),HX.out.bel⟩
  · have hlti:¬ (k:Int) < 3:=by omega
    have HOK:=Lib.hid (rest_ok fun j q h1 h2 h3=>HJ.out j q h1 (by omega) h3);clear hk0 hk1 hk2 HJ hp3;exact absurd (HOK.out.symm.trans HR.out) (by decide)
set_option maxHeartbeats 1000000 in
set_option maxRecDepth 100000 in
theorem expr_num {B p g a:Nat} {h:MH} {m:ModelD} {x:ExprD} (w:World) (hk:Ck B w p h m) (hx:exprAt B w g a x) (hg:g < B) (hok:1≤x.op∧x.op≤39) (hrest:restB x=true) (hop:x.op=1):
 Calls Tryz.prog 171 #[.pointer (some ⟨p,0,none⟩),.pointer (some ⟨g,a,none⟩)] w fun e w'=>e= .returned (.bool (kindB m x))∧Below w.heap.size w w':=by
 have HK:=Lib.hid hk;obtain ⟨o1,p1,o2,p2,o3,p3,hxc,hd1,hd2,hd3⟩:=hx.xc;have HXC:=Lib.hid hxc;have HD:=Lib.hid (And.intro hd1 (And.intro hd2 hd3));have hgw:g < w.heap.size:=by have:=hk.le;have:=hk.lt;omega
 have HR:=Lib.hid hrest;have HV:Hid (kindB m x=fitB 32 true x.n):=Lib.hid (if_pos hop);have b1: (x.op == 1)=true:=by simp [hop]
 clear hop;obtain ⟨k1,k2⟩:=hok;have c0:=hxc.c0;have HS:Hid (∀w',Below w.heap.size w w'→ (Below w.heap.size w w'∧w'.cell? ⟨g,a+2,none⟩=some (.int .i64 x.a)∧w'.cell? ⟨g,a+3,none⟩=some (.int .i64 x.b)∧w'.cell? ⟨g,a+4,none⟩=some (.int .i64 x.c))):=Lib.hid fun w' hb=>
  have h:=HXC.out.below hgw hb
  ⟨hb,h.c2,h.c3,h.c4⟩
 clear hxc hd1 hd2 hd3 hx hk hrest;go_enter Tryz.func171,Tryz.ntmps171;go_wp2_with fail
 go_region_held3 (fun w'=>Below w.heap.size w w'∧w'.cell? ⟨g,a+2,none⟩=some (.int .i64 x.a)∧w'.cell? ⟨g,a+3,none⟩=some (.int .i64 x.b)∧w'.cell? ⟨g,a+4,none⟩=some (.int .i64 x.c))
  (first | assumption | with_reducible exact HS.out _ (Below.refl _ _).drew | with_reducible exact HS.out _ (by assumption) | with_reducible exact HS.out _ (Below.alloc (And.left (by assumption)) (Below.size (And.left (by assumption))) _) | with_reducible exact HS.out _ (Below.drew (Below.alloc (Below.refl _ _) (Nat.le_refl _) _)))
  (fail)
 have HX:Hid (Bx w #[.int .i64 x.a,.int .i64 x.b,.int .i64 x.c] 146 (w.alloc (Obj.cells #[.int .i64 x.a,.int .i64 x.b,.int .i64 x.c] 146)).drew):=Lib.hid ((Bx.new w _ _).below (Below.refl _ _).drew);generalize (w.alloc (Obj.cells #[.int .i64 x.a,.int .i64 x.b,.int .i64 x.c] 146)).drew=W at HX ⊢;have HW:=Lib.hid (HXC.out.below hgw HX.out.bel);have HKW:=Lib.hid (HK.out.bx HX.out);have d0:=HW.out.c0;have d1:=HW.out.c1;clear HS c0;go_wp2_with fail;refine (partsOfC x.op W).mono ?_;rintro e w' ⟨rfl,rfl⟩;have hp3:=partsOf_le x.op;go_wp2_with fail
 go_loop [6] (fun iv=>∃k:Nat,iv= .int .i64 k∧partsOf x.op≤k∧k≤3∧Hid (∀j q,partsOf x.op≤j→j < k→ (abcL x)[j]? =some q→q= -1)) (fun iv=>3 - (intOf iv).toNat)
 case atStart=>exact ⟨partsOf x.op,rfl,Nat.le_refl _,hp3,Lib.hid fun j q h1 h2=>by omega⟩
 case round=>
  obtain ⟨k,rfl,hk1,hk2,HJ⟩:=hrel;have hk0: (0:Int)≤k:=by omega
  by_cases hlt:k < 3
  · have hlti: (k:Int) < 3:=by omega
    obtain ⟨q,hq1,hq2⟩:=abc_at HX.out hlt;have HQ:=Lib.hid hq2;clear hq2;by_cases hqe:q= -1
    · have hqb: (q != -1)=false:=by simp [hqe]
      have HQE:=Lib.hid hqe;clear hqe;go_wp2_with fail;go_round;case rel=>exact ⟨k+1,by go_num,by omega,by omega,Lib.hid fun j u h1 h2 h3=>by
       by_cases e:j=k
       · subst e;rw [HQ.out] at h3;injection h3 with h3
         rw [←h3,HQE.out]
       · exact HJ.out j u h1 (by omega) h3⟩
      case measure=>simp [intOf];omega
    · have HF:=Lib.hid (rest_bad hk1 HQ.out hqe);have hqb: (q != -1)=true:=by simp [hqe]
      clear hqe;exact absurd (HF.out.symm.trans HR.out) (by decide)
  · have hlti:¬ (k:Int) < 3:=by omega
    have HOK:=Lib.hid (rest_ok fun j q h1 h2 h3=>HJ.out j q h1 (by omega) h3);clear hk0 hk1 hk2 HJ hp3;go_wp2_with fail;refine (fitsC 32 true x.n W).mono ?_;rintro e w' ⟨rfl,hb⟩;have HB:=Lib.hid (HX.out.bel.trans (hb.mono HX.out.bel.size));clear hb;go_wp2_with fail;go_ret;exact ⟨retB HV.out.symm,HB.out⟩
set_option maxHeartbeats 1000000 in
set_option maxRecDepth 100000 in
theorem expr_var {B p g a:Nat} {h:MH} {m:ModelD} {x:ExprD} (w:World) (hk:Ck B w p h m) (hx:exprAt B w g a x) (hg:g < B) (hok:1≤x.op∧x.op≤39) (hrest:restB x=true) (hop:x.op=2):
 Calls Tryz.prog 171 #[.pointer (some ⟨p,0,none⟩),.pointer (some ⟨g,a,none⟩)] w fun e w'=>e= .returned (.bool (kindB m x))∧Below w.heap.size w w':=by
 have HK:=Lib.hid hk;obtain ⟨o1,p1,o2,p2,o3,p3,hxc,hd1,hd2,hd3⟩:=hx.xc;have HXC:=Lib.hid hxc;have HD:=Lib.hid (And.intro hd1 (And.intro hd2 hd3));have hgw:g < w.heap.size:=by have:=hk.le;have:=hk.lt;omega
 have HR:=Lib.hid hrest;have HV:Hid (kindB m x=varB m x.v):=Lib.hid (by unfold kindB;rw [if_neg (by omega),if_pos hop]);have b1: (x.op == 1)=false:=by simp [hop]
 have b2: (x.op == 2)=true:=by simp [hop]
 clear hop;obtain ⟨k1,k2⟩:=hok;have c0:=hxc.c0;have HS:Hid (∀w',Below w.heap.size w w'→ (Below w.heap.size w w'∧w'.cell? ⟨g,a+2,none⟩=some (.int .i64 x.a)∧w'.cell? ⟨g,a+3,none⟩=some (.int .i64 x.b)∧w'.cell? ⟨g,a+4,none⟩=some (.int .i64 x.c))):=Lib.hid fun w' hb=>
  have h:=HXC.out.below hgw hb
  ⟨hb,h.c2,h.c3,h.c4⟩
 clear hxc hd1 hd2 hd3 hx hk hrest;go_enter Tryz.func171,Tryz.ntmps171;go_wp2_with fail
 go_region_held3 (fun w'=>Below w.heap.size w w'∧w'.cell? ⟨g,a+2,none⟩=some (.int .i64 x.a)∧w'.cell? ⟨g,a+3,none⟩=some (.int .i64 x.b)∧w'.cell? ⟨g,a+4,none⟩=some (.int .i64 x.c))
  (first | assumption | with_reducible exact HS.out _ (Below.refl _ _).drew | with_reducible exact HS.out _ (by assumption) | with_reducible exact HS.out _ (Below.alloc (And.left (by assumption)) (Below.size (And.left (by assumption))) _) | with_reducible exact HS.out _ (Below.drew (Below.alloc (Below.refl _ _) (Nat.le_refl _) _)))
  (fail)
 have HX:Hid (Bx w #[.int .i64 x.a,.int .i64 x.b,.int .i64 x.c] 146 (w.alloc (Obj.cells #[.int .i64 x.a,.int .i64 x.b,.int .i64 x.c] 146)).drew):=Lib.hid ((Bx.new w _ _).below (Below.refl _ _).drew);generalize (w.alloc (Obj.cells #[.int .i64 x.a,.int .i64 x.b,.int .i64 x.c] 146)).drew=W at HX ⊢;have HW:=Lib.hid (HXC.out.below hgw HX.out.bel);have HKW:=Lib.hid (HK.out.bx HX.out);have d0:=HW.out.c0;have d1:=HW.out.c1;clear HS c0;go_wp2_with fail;refine (partsOfC x.op W).mono ?_;rintro e w' ⟨rfl,rfl⟩;have hp3:=partsOf_le x.op;go_wp2_with fail
 go_loop [6] (fun iv=>∃k:Nat,iv= .int .i64 k∧partsOf x.op≤k∧k≤3∧Hid (∀j q,partsOf x.op≤j→j < k→ (abcL x)[j]? =some q→q= -1)) (fun iv=>3 - (intOf iv).toNat)
 case atStart=>exact ⟨partsOf x.op,rfl,Nat.le_refl _,hp3,Lib.hid fun j q h1 h2=>by omega⟩
 case round=>
  obtain ⟨k,rfl,hk1,hk2,HJ⟩:=hrel;have hk0: (0:Int)≤k:=by omega
  by_cases hlt:k < 3
  · have hlti: (k:Int) < 3:=by omega
    obtain ⟨q,hq1,hq2⟩:=abc_at HX.out hlt;have HQ:=Lib.hid hq2;clear hq2;by_cases hqe:q= -1
    · have hqb: (q != -1)=false:=by simp [hqe]
      have HQE:=Lib.hid hqe;clear hqe;go_wp2_with fail;go_round;case rel=>exact ⟨k+1,by go_num,by omega,by omega,Lib.hid fun j u h1 h2 h3=>by
       by_cases e:j=k
       · subst e;rw [HQ.out] at h3;injection h3 with h3
         rw [←h3,HQE.out]
       · exact HJ.out j u h1 (by omega) h3⟩
      case measure=>simp [intOf];omega
    · have HF:=Lib.hid (rest_bad hk1 HQ.out hqe);have hqb: (q != -1)=true:=by simp [hqe]
      clear hqe;exact absurd (HF.out.symm.trans HR.out) (by decide)
  · have hlti:¬ (k:Int) < 3:=by omega
    have HOK:=Lib.hid (rest_ok fun j q h1 h2 h3=>HJ.out j q h1 (by omega) h3);clear hk0 hk1 hk2 HJ hp3;have v0:=HW.out.v0;have v1:=HW.out.v1;have v2:=HW.out.v2;have v3:=HW.out.v3;have v4:=HW.out.v4;go_wp2_with fail;refine (variableC x.v o1 p1 W HKW.out (HD.out.1.mono fun _ _ _ hg=>dimAt.below (HX.out.bel.mono (by have:=HK.out.le;have:=HK.out.lt;omega)) hg)).mono ?_;rintro e w' ⟨rfl,hb⟩;have HB:=Lib.hid (HX.out.bel.trans (hb.mono HX.out.bel.size));clear hb;go_wp2_with fail;go_ret;exact ⟨retB HV.out.symm,HB.out⟩
set_option maxHeartbeats 1000000 in
set_option maxRecDepth 100000 in
theorem expr_else {B p g a:Nat} {h:MH} {m:ModelD} {x:ExprD} (w:World) (hk:Ck B w p h m) (hx:exprAt B w g a x) (hg:g < B) (hok:1≤x.op∧x.op≤39) (hrest:restB x=true) (hop:¬x.op=1∧¬x.op=2∧¬x.op=30∧¬x.op=38∧¬x.op=39):
 Calls Tryz.prog 171 #[.pointer (some ⟨p,0,none⟩),.pointer (some ⟨g,a,none⟩)] w fun e w'=>e= .returned (.bool (kindB m x))∧Below w.heap.size w w':=by
 have HK:=Lib.hid hk;obtain ⟨o1,p1,o2,p2,o3,p3,hxc,hd1,hd2,hd3⟩:=hx.xc;have HXC:=Lib.hid hxc;have HD:=Lib.hid (And.intro hd1 (And.intro hd2 hd3));have hgw:g < w.heap.size:=by have:=hk.le;have:=hk.lt;omega
 have HR:=Lib.hid hrest;have HV:Hid (kindB m x=true):=Lib.hid (by unfold kindB;rw [if_neg hop.1,if_neg hop.2.1,if_neg hop.2.2.1,if_neg hop.2.2.2.1,if_neg hop.2.2.2.2]);have b1: (x.op == 1)=false:=by simp [hop]
 have b2: (x.op == 2)=false:=by simp [hop]
 have b3: (x.op == 30)=false:=by simp [hop]
 have b4: (x.op == 38)=false:=by simp [hop]
 have b5: (x.op == 39)=false:=by simp [hop]
 clear hop;obtain ⟨k1,k2⟩:=hok;have c0:=hxc.c0;have HS:Hid (∀w',Below w.heap.size w w'→ (Below w.heap.size w w'∧w'.cell? ⟨g,a+2,none⟩=some (.int .i64 x.a)∧w'.cell? ⟨g,a+3,none⟩=some (.int .i64 x.b)∧w'.cell? ⟨g,a+4,none⟩=some (.int .i64 x.c))):=Lib.hid fun w' hb=>
  have h:=HXC.out.below hgw hb
  ⟨hb,h.c2,h.c3,h.c4⟩
 clear hxc hd1 hd2 hd3 hx hk hrest;go_enter Tryz.func171,Tryz.ntmps171;go_wp2_with fail
 go_region_held3 (fun w'=>Below w.heap.size w w'∧w'.cell? ⟨g,a+2,none⟩=some (.int .i64 x.a)∧w'.cell? ⟨g,a+3,none⟩=some (.int .i64 x.b)∧w'.cell? ⟨g,a+4,none⟩=some (.int .i64 x.c))
  (first | assumption | with_reducible exact HS.out _ (Below.refl _ _).drew | with_reducible exact HS.out _ (by assumption) | with_reducible exact HS.out _ (Below.alloc (And.left (by assumption)) (Below.size (And.left (by assumption))) _) | with_reducible exact HS.out _ (Below.drew (Below.alloc (Below.refl _ _) (Nat.le_refl _) _)))
  (fail)
 have HX:Hid (Bx w #[.int .i64 x.a,.int .i64 x.b,.int .i64 x.c] 146 (w.alloc (Obj.cells #[.int .i64 x.a,.int .i64 x.b,.int .i64 x.c] 146)).drew):=Lib.hid ((Bx.new w _ _).below (Below.refl _ _).drew);generalize (w.alloc (Obj.cells #[.int .i64 x.a,.int .i64 x.b,.int .i64 x.c] 146)).drew=W at HX ⊢;have HW:=Lib.hid (HXC.out.below hgw HX.out.bel);have HKW:=Lib.hid (HK.out.bx HX.out);have d0:=HW.out.c0;have d1:=HW.out.c1;clear HS c0;go_wp2_with fail;refine (partsOfC x.op W).mono ?_;rintro e w' ⟨rfl,rfl⟩;have hp3:=partsOf_le x.op;go_wp2_with fail
 go_loop [6] (fun iv=>∃k:Nat,iv= .int .i64 k∧partsOf x.op≤k∧k≤3∧Hid (∀j q,partsOf x.op≤j→j < k→ (abcL x)[j]? =some q→q= -1)) (fun iv=>3 - (intOf iv).toNat)
 case atStart=>exact ⟨partsOf x.op,rfl,Nat.le_refl _,hp3,Lib.hid fun j q h1 h2=>by omega⟩
 case round=>
  obtain ⟨k,rfl,hk1,hk2,HJ⟩:=hrel;have hk0: (0:Int)≤k:=by omega
  by_cases hlt:k < 3
  · have hlti: (k:Int) < 3:=by omega
    obtain ⟨q,hq1,hq2⟩:=abc_at HX.out hlt;have HQ:=Lib.hid hq2;clear hq2;by_cases hqe:q= -1
    · have hqb: (q != -1)=false:=by simp [hqe]
      have HQE:=Lib.hid hqe;clear hqe;go_wp2_with fail;go_round;case rel=>exact ⟨k+1,by go_num,by omega,by omega,Lib.hid fun j u h1 h2 h3=>by
       by_cases e:j=k
       · subst e;rw [HQ.out] at h3;injection h3 with h3
         rw [←h3,HQE.out]
       · exact HJ.out j u h1 (by omega) h3⟩
      case measure=>simp [intOf];omega
    · have HF:=Lib.hid (rest_bad hk1 HQ.out hqe);have hqb: (q != -1)=true:=by simp [hqe]
      clear hqe;exact absurd (HF.out.symm.trans HR.out) (by decide)
  · have hlti:¬ (k:Int) < 3:=by omega
    have HOK:=Lib.hid (rest_ok fun j q h1 h2 h3=>HJ.out j q h1 (by omega) h3);clear hk0 hk1 hk2 HJ hp3;go_wp2_with fail;go_ret;exact ⟨retB HV.out.symm,HX.out.bel⟩
end Go.Proofs.YthfldokfnjpkmaaGreatDoor
