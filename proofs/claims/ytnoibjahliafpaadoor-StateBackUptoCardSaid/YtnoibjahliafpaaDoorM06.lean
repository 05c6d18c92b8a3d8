/- One expression, by itself. -/
import Derived.Test.YtnoibjahliafpaaDoorM04
import Derived.Deep.RegionHeld3
import Derived.Lib.SmallJoins
set_option linter.unusedVariables false
set_option linter.unusedSimpArgs false
namespace Go.Proofs.YtnoibjahliafpaaDoor
open Go.ChangeShapes Go.WideShapes Go.ChangeAt Go.RowKit
theorem partsOf_le (op:Int):partsOf op≤3:=by unfold partsOf;(repeat' split) <;> omega
structure XC (w:World) (g a:Nat) (x:ExprD) (o1:Option Addr) (p1:Nat) (o2:Option Addr) (p2:Nat) (o3:Option Addr) (p3:Nat):Prop where
 c0:w.cell? ⟨g,a,none⟩=some (.int .i64 x.op)
 c1:w.cell? ⟨g,a+1,none⟩=some (.int .i64 x.n)
 c2:w.cell? ⟨g,a+2,none⟩=some (.int .i64 x.a)
 c3:w.cell? ⟨g,a+3,none⟩=some (.int .i64 x.b)
 c4:w.cell? ⟨g,a+4,none⟩=some (.int .i64 x.c)
 v0:w.cell? ⟨g,a+5,none⟩=some (.int .i64 x.v.scope)
 v1:w.cell? ⟨g,a+5+1,none⟩=some (.int .i64 x.v.slot)
 v2:w.cell? ⟨g,a+5+2,none⟩=some (.int .i64 x.v.who)
 v3:w.cell? ⟨g,a+5+3,none⟩=some (.int .i64 x.v.type)
 v4:w.cell? ⟨g,a+5+4,none⟩=some (.slice o1 x.v.dims.length p1)
 c6:w.cell? ⟨g,a+10,none⟩=some (.slice o2 x.args.length p2)
 c7:w.cell? ⟨g,a+11,none⟩=some (.slice o3 x.mat.length p3)
theorem exprAt.xc {B g a:Nat} {w:World} {x:ExprD} (h:exprAt B w g a x):∃o1 p1 o2 p2 o3 p3,XC w g a x o1 p1 o2 p2 o3 p3∧Row B o1 3 (dimAt w) x.v.dims∧Row B o2 1 (intAt w) x.args∧Row B o3 1 (intAt w) x.mat:=by
 obtain ⟨o1,p1,d1,d2⟩:=h.v.dims;obtain ⟨o2,p2,a1,a2⟩:=h.args;obtain ⟨o3,p3,m1,m2⟩:=h.mat;exact ⟨o1,p1,o2,p2,o3,p3,⟨h.c0,h.c1,h.c2,h.c3,h.c4,h.v.c0,h.v.c1,h.v.c2,h.v.c3,d1,a1,m1⟩,d2,a2,m2⟩
theorem XC.below {B g a:Nat} {w w':World} {x:ExprD} {o1 o2 o3:Option Addr} {p1 p2 p3:Nat} (h:XC w g a x o1 p1 o2 p2 o3 p3) (hg:g < B) (hb:Below B w w'):XC w' g a x o1 p1 o2 p2 o3 p3:=
 ⟨(hb.cell hg).trans h.c0,(hb.cell hg).trans h.c1,(hb.cell hg).trans h.c2,(hb.cell hg).trans h.c3,(hb.cell hg).trans h.c4,(hb.cell hg).trans h.v0,(hb.cell hg).trans h.v1,(hb.cell hg).trans h.v2,(hb.cell hg).trans h.v3,(hb.cell hg).trans h.v4,(hb.cell hg).trans h.c6,(hb.cell hg).trans h.c7⟩
set_option maxRecDepth 100000 in
theorem expr_range {B p g a:Nat} {h:MH} {m:ModelD} {x:ExprD} (w:World) (hk:Ck B w p h m) (hx:exprAt B w g a x) (hg:g < B) (hbad:x.op < 1∨39 < x.op):
 Calls Tryd.prog 55 #[.pointer (some ⟨p,0,none⟩),.pointer (some ⟨g,a,none⟩)] w fun e w'=>e= .returned (.bool (exprB m x))∧Below w.heap.size w w':=by
 have HV:Hid (exprB m x=false):=Lib.hid (by unfold exprB;rw [decide_eq_false (by omega)];rfl);have c0:=hx.c0;clear hx hk;go_enter Tryd.func55,Tryd.ntmps55;go_wp2
 all_goals first | (exfalso;omega) | (go_ret;exact ⟨retB HV.out.symm,Below.refl _ _⟩)
theorem abc_at {w W:World} {x:ExprD} (h:Bx w #[.int .i64 x.a,.int .i64 x.b,.int .i64 x.c] 144 W) {k:Nat} (hk:k < 3):∃q,W.cell? ⟨w.heap.size,k,none⟩=some (.int .i64 q)∧ (abcL x)[k]? =some q:=by
 match k,hk with
 | 0,_=>exact ⟨x.a,h.cell rfl,rfl⟩
 | 1,_=>exact ⟨x.b,h.cell rfl,rfl⟩
 | 2,_=>exact ⟨x.c,h.cell rfl,rfl⟩
theorem rest_bad {x:ExprD} {k:Nat} {q:Int} (hk:partsOf x.op≤k) (h: (abcL x)[k]? =some q) (hq:q≠ -1):restB x=false:=by
 unfold restB;rw [List.all_eq_false];refine ⟨q, ?_,by simpa using hq⟩;rw [List.mem_iff_getElem?];exact ⟨k - partsOf x.op,by rw [List.getElem?_drop,show partsOf x.op+ (k - partsOf x.op)=k by omega];exact h⟩
theorem rest_ok {x:ExprD} (h:∀k q,partsOf x.op≤k→k < 3→ (abcL x)[k]? =some q→q= -1):restB x=true:=by
 unfold restB;rw [List.all_eq_true];intro q hq;obtain ⟨i,hi⟩:=List.mem_iff_getElem?.1 hq;rw [List.getElem?_drop] at hi;have h3:=(List.getElem?_eq_some_iff.1 hi).1;have:=h (partsOf x.op+i) q (by omega) (by simpa [abcL] using h3) hi;simp [this]
set_option maxHeartbeats 1000000 in
set_option maxRecDepth 100000 in
theorem expr_rest {B p g a:Nat} {h:MH} {m:ModelD} {x:ExprD} (w:World) (hk:Ck B w p h m) (hx:exprAt B w g a x) (hg:g < B) (hok:1≤x.op∧x.op≤39) (hrest:restB x=false):
 Calls Tryd.prog 55 #[.pointer (some ⟨p,0,none⟩),.pointer (some ⟨g,a,none⟩)] w fun e w'=>e= .returned (.bool (exprB m x))∧Below w.heap.size w w':=by
 have HK:=Lib.hid hk;obtain ⟨o1,p1,o2,p2,o3,p3,hxc,hd1,hd2,hd3⟩:=hx.xc;have HXC:=Lib.hid hxc;have HD:=Lib.hid (And.intro hd1 (And.intro hd2 hd3));have hgw:g < w.heap.size:=by have:=hk.le;have:=hk.lt;omega
 have HR:=Lib.hid hrest;obtain ⟨k1,k2⟩:=hok;have c0:=hxc.c0;have HS:Hid (∀w',Below w.heap.size w w'→ (Below w.heap.size w w'∧w'.cell? ⟨g,a+2,none⟩=some (.int .i64 x.a)∧w'.cell? ⟨g,a+3,none⟩=some (.int .i64 x.b)∧w'.cell? ⟨g,a+4,none⟩=some (.int .i64 x.c))):=Lib.hid fun w' hb=>
  have h:=HXC.out.below hgw hb
  ⟨hb,h.c2,h.c3,h.c4⟩
 clear hxc hd1 hd2 hd3 hx hk hrest;go_enter Tryd.func55,Tryd.ntmps55;go_wp2_with fail
 go_region_held3 (fun w'=>Below w.heap.size w w'∧w'.cell? ⟨g,a+2,none⟩=some (.int .i64 x.a)∧w'.cell? ⟨g,a+3,none⟩=some (.int .i64 x.b)∧w'.cell? ⟨g,a+4,none⟩=some (.int .i64 x.c))
  (first | assumption | with_reducible exact HS.out _ (Below.refl _ _).drew | with_reducible exact HS.out _ (by assumption) | with_reducible exact HS.out _ (Below.alloc (And.left (by assumption)) (Below.size (And.left (by assumption))) _) | with_reducible exact HS.out _ (Below.drew (Below.alloc (Below.refl _ _) (Nat.le_refl _) _)))
  (fail)
 have HX:Hid (Bx w #[.int .i64 x.a,.int .i64 x.b,.int .i64 x.c] 144 (w.alloc (Obj.cells #[.int .i64 x.a,.int .i64 x.b,.int .i64 x.c] 144)).drew):=Lib.hid ((Bx.new w _ _).below (Below.refl _ _).drew);generalize (w.alloc (Obj.cells #[.int .i64 x.a,.int .i64 x.b,.int .i64 x.c] 144)).drew=W at HX ⊢;have HW:=Lib.hid (HXC.out.below hgw HX.out.bel);have HKW:=Lib.hid (HK.out.bx HX.out);have d0:=HW.out.c0;have d1:=HW.out.c1;clear HS c0;go_wp2_with fail;refine (partsOfC x.op W).mono ?_;rintro e w' ⟨rfl,rfl⟩;have hp3:=partsOf_le x.op;go_wp2_with fail
 go_loop [6] (fun iv=>∃k:Nat,iv= .int .i64 k∧partsOf x.op≤k∧k≤3∧Hid (∀j q,partsOf x.op≤j→j < k→ (abcL x)[j]? =some q→q= -1)) (fun iv=>3 - (intOf iv).toNat)
 case atStart=>exact ⟨partsOf x.op,rfl,Nat.le_refl _,hp3,Lib.hid fun j q h1 h2=>by omega⟩
 case round=>
  obtain ⟨k,rfl,hk1,hk2,HJ⟩:=hrel;have hk0: (0:Int)≤k:=by omega
  by_cases hlt:k < 3
  · have hlti: (k:Int) < 3:=by omega
    obtain ⟨q,hq1,hq2⟩:=abc_at HX.out hlt;have HQ:=Lib.hid hq2;clear hq2;by_cases hqe:q= -1
    · have hqb: (q != -1)=false:=by simp [hqe]
      have HQE:=Lib.hid hqe;clear hqe;go_wp2_with fail;go_round;case rel=>exact ⟨k+1,by go_num,by omega,by omega,Lib.hid fun j u h1 h2 h3=>by
       by_cases e:j=k
       · subst e;rw [HQ.out] at h3;injection h3 with h3
         rw [←h3,HQE.out]
       · exact HJ.out j u h1 (by omega) h3⟩
      case measure=>simp [intOf];omega
    · have HF:=Lib.hid (rest_bad hk1 HQ.out hqe);have hqb: (q != -1)=true:=by simp [hqe]
      clear hqe;go_wp2_with fail;go_ret;exact ⟨retB (by unfold exprB;rw [HF.out];simp),HX.out.bel⟩
  · have hlti:¬ (k:Int) < 3:=by omega
    have HOK:=Lib.hid (rest_ok fun j q h1 h2 h3=>HJ.out j q h1 (by omega) h3);clear hk0 hk1 hk2 HJ hp3;exact absurd (HOK.out.symm.trans HR.out) (by decide)
set_option maxHeartbeats 1000000 in
set_option maxRecDepth 100000 in
theorem expr_num {B p g a:Nat} {h:MH} {m:ModelD} {x:ExprD} (w:World) (hk:Ck B w p h m) (hx:exprAt B w g a x) (hg:g < B) (hok:1≤x.op∧x.op≤39) (hrest:restB x=true) (hop:x.op=1):
 Calls Tryd.prog 55 #[.pointer (some ⟨p,0,none⟩),.pointer (some ⟨g,a,none⟩)] w fun e w'=>e= .returned (.bool (kindB m x))∧Below w.heap.size w w':=by
 have HK:=Lib.hid hk;obtain ⟨o1,p1,o2,p2,o3,p3,hxc,hd1,hd2,hd3⟩:=hx.xc;have HXC:=Lib.hid hxc;have HD:=Lib.hid (And.intro hd1 (And.intro hd2 hd3));have hgw:g < w.heap.size:=by have:=hk.le;have:=hk.lt;omega
 have HR:=Lib.hid hrest;have HV:Hid (kindB m x=fitB 32 true x.n):=Lib.hid (if_pos hop);have b1: (x.op == 1)=true:=by simp [hop]
 clear hop;obtain ⟨k1,k2⟩:=hok;have c0:=hxc.c0;have HS:Hid (∀w',Below w.heap.size w w'→ (Below w.heap.size w w'∧w'.cell? ⟨g,a+2,none⟩=some (.int .i64 x.a)∧w'.cell? ⟨g,a+3,none⟩=some (.int .i64 x.b)∧w'.cell? ⟨g,a+4,none⟩=some (.int .i64 x.c))):=Lib.hid fun w' hb=>
  have h:=HXC.out.below hgw hb
  ⟨hb,h.c2,h.c3,h.c4⟩
 clear hxc hd1 hd2 hd3 hx hk hrest;go_enter Tryd.func55,Tryd.ntmps55;go_wp2_with fail
 go_region_held3 (fun w'=>Below w.heap.size w w'∧w'.cell? ⟨g,a+2,none⟩=some (.int .i64 x.a)∧w'.cell? ⟨g,a+3,none⟩=some (.int .i64 x.b)∧w'.cell? ⟨g,a+4,none⟩=some (.int .i64 x.c))
  (first | assumption | with_reducible exact HS.out _ (Below.refl _ _).drew | with_reducible exact HS.out _ (by assumption) | with_reducible exact HS.out _ (Below.alloc (And.left (by assumption)) (Below.size (And.left (by assumption))) _) | with_reducible exact HS.out _ (Below.drew (Below.alloc (Below.refl _ _) (Nat.le_refl _) _)))
  (fail)
 have HX:Hid (Bx w #[.int .i64 x.a,.int .i64 x.b,.int .i64 x.c] 144 (w.alloc (Obj.cells #[.int .i64 x.a,.int .i64 x.b,.int .i64 x.c] 144)).drew):=Lib.hid ((Bx.new w _ _).below (Below.refl _ _).drew);generalize (w.alloc (Obj.cells #[.int .i64 x.a,.int .i64 x.b,.int .i64 x.c] 144)).drew=W at HX ⊢;have HW:=Lib.hid (HXC.out.below hgw HX.out.bel);have HKW:=Lib.hid (HK.out.bx HX.out);have d0:=HW.out.c0;have d1:=HW.out.c1;clear HS c0;go_wp2_with fail;refine (partsOfC x.op W).mono ?_;rintro e w' ⟨rfl,rfl⟩;have hp3:=partsOf_le x.op;go_wp2_with fail
 go_loop [6] (fun iv=>∃k:Nat,iv= .int .i64 k∧partsOf x.op≤k∧k≤3∧Hid (∀j q,partsOf x.op≤j→j < k→ (abcL x)[j]? =some q→q= -1)) (fun iv=>3 - (intOf iv).toNat)
 case atStart=>exact ⟨partsOf x.op,rfl,Nat.le_refl _,hp3,Lib.hid fun j q h1 h2=>by omega⟩
 case round=>
  obtain ⟨k,rfl,hk1,hk2,HJ⟩:=hrel;have hk0: (0:Int)≤k:=by omega
  by_cases hlt:k < 3
  · have hlti: (k:Int) < 3:=by omega
    obtain ⟨q,hq1,hq2⟩:=abc_at HX.out hlt;have HQ:=Lib.hid hq2;clear hq2;by_cases hqe:q= -1
    · have hqb: (q != -1)=false:=by simp [hqe]
      have HQE:=Lib.hid hqe;clear hqe;go_wp2_with fail;go_round;case rel=>exact ⟨k+1,by go_num,by omega,by omega,Lib.hid fun j u h1 h2 h3=>by
       by_cases e:j=k
       · subst e;rw [HQ.out] at h3;injection h3 with h3
         rw [←h3,HQE.out]
       · exact HJ.out j u h1 (by omega) h3⟩
      case measure=>simp [intOf];omega
    · have HF:=Lib.hid (rest_bad hk1 HQ.out hqe);have hqb: (q != -1)=true:=by simp [hqe]
      clear hqe;exact absurd (HF.out.symm.trans HR.out) (by decide)
  · have hlti:¬ (k:Int) < 3:=by omega
    have HOK:=Lib.hid (rest_ok fun j q h1 h2 h3=>HJ.out j q h1 (by omega) h3);clear hk0 hk1 hk2 HJ hp3;go_wp2_with fail;refine (fitsC 32 true x.n W).mono ?_;rintro e w' ⟨rfl,hb⟩;have HB:=Lib.hid (HX.out.bel.trans (hb.mono HX.out.bel.size));clear hb;go_wp2_with fail;go_ret;exact ⟨retB HV.out.symm,HB.out⟩
set_option maxHeartbeats 1000000 in
set_option maxRecDepth 100000 in
theorem expr_var {B p g a:Nat} {h:MH} {m:ModelD} {x:ExprD} (w:World) (hk:Ck B w p h m) (hx:exprAt B w g a x) (hg:g < B) (hok:1≤x.op∧x.op≤39) (hrest:restB x=true) (hop:x.op=2):
 Calls Tryd.prog 55 #[.pointer (some ⟨p,0,none⟩),.pointer (some ⟨g,a,none⟩)] w fun e w'=>e= .returned (.bool (kindB m x))∧Below w.heap.size w w':=by
 have HK:=Lib.hid hk;obtain ⟨o1,p1,o2,p2,o3,p3,hxc,hd1,hd2,hd3⟩:=hx.xc;have HXC:=Lib.hid hxc;have HD:=Lib.hid (And.intro hd1 (And.intro hd2 hd3));have hgw:g < w.heap.size:=by have:=hk.le;have:=hk.lt;omega
 have HR:=Lib.hid hrest;have HV:Hid (kindB m x=varB m x.v):=Lib.hid (by unfold kindB;rw [if_neg (by omega),if_pos hop]);have b1: (x.op == 1)=false:=by simp [hop]
 have b2: (x.op == 2)=true:=by simp [hop]
 clear hop;obtain ⟨k1,k2⟩:=hok;have c0:=hxc.c0;have HS:Hid (∀w',Below w.heap.size w w'→ (Below w.heap.size w w'∧w'.cell? ⟨g,a+2,none⟩=some (.int .i64 x.a)∧w'.cell? ⟨g,a+3,none⟩=some (.int .i64 x.b)∧w'.cell? ⟨g,a+4,none⟩=some (.int .i64 x.c))):=Lib.hid fun w' hb=>
  have h:=HXC.out.below hgw hb
  ⟨hb,h.c2,h.c3,h.c4⟩
 clear hxc hd1 hd2 hd3 hx hk hrest;go_enter Tryd.func55,Tryd.ntmps55;go_wp2_with fail
 go_region_held3 (fun w'=>Below w.heap.size w w'∧w'.cell? ⟨g,a+2,none⟩=some (.int .i64 x.a)∧w'.cell? ⟨g,a+3,none⟩=some (.int .i64 x.b)∧w'.cell? ⟨g,a+4,none⟩=some (.int .i64 x.c))
  (first | assumption | with_reducible exact HS.out _ (Below.refl _ _).drew | with_reducible exact HS.out _ (by assumption) | with_reducible exact HS.out _ (Below.alloc (And.left (by assumption)) (Below.size (And.left (by assumption))) _) | with_reducible exact HS.out _ (Below.drew (Below.alloc (Below.refl _ _) (Nat.le_refl _) _)))
  (fail)
 have HX:Hid (Bx w #[.int .i64 x.a,.int .i64 x.b,.int .i64 x.c] 144 (w.alloc (Obj.cells #[.int .i64 x.a,.int .i64 x.b,.int .i64 x.c] 144)).drew):=Lib.hid ((Bx.new w _ _).below (Below.refl _ _).drew);generalize (w.alloc (Obj.cells #[.int .i64 x.a,.int .i64 x.b,.int .i64 x.c] 144)).drew=W at HX ⊢;have HW:=Lib.hid (HXC.out.below hgw HX.out.bel);have HKW:=Lib.hid (HK.out.bx HX.out);have d0:=HW.out.c0;have d1:=HW.out.c1;clear HS c0;go_wp2_with fail;refine (partsOfC x.op W).mono ?_;rintro e w' ⟨rfl,rfl⟩;have hp3:=partsOf_le x.op;go_wp2_with fail
 go_loop [6] (fun iv=>∃k:Nat,iv= .int .i64 k∧partsOf x.op≤k∧k≤3∧Hid (∀j q,partsOf x.op≤j→j < k→ (abcL x)[j]? =some q→q= -1)) (fun iv=>3 - (intOf iv).toNat)
 case atStart=>exact ⟨partsOf x.op,rfl,Nat.le_refl _,hp3,Lib.hid fun j q h1 h2=>by omega⟩
 case round=>
  obtain ⟨k,rfl,hk1,hk2,HJ⟩:=hrel;have hk0: (0:Int)≤k:=by omega
  by_cases hlt:k < 3
  · have hlti: (k:Int) < 3:=by omega
    obtain ⟨q,hq1,hq2⟩:=abc_at HX.out hlt;have HQ:=Lib.hid hq2;clear hq2;by_cases hqe:q= -1
    · have hqb: (q != -1)=false:=by simp [hqe]
      have HQE:=Lib.hid hqe;clear hqe;go_wp2_with fail;go_round;case rel=>exact ⟨k+1,by go_num,by omega,by omega,Lib.hid fun j u h1 h2 h3=>by
       by_cases e:j=k
       · subst e;rw [HQ.out] at h3;injection h3 with h3
         rw [←h3,HQE.out]
       · exact HJ.out j u h1 (by omega) h3⟩
      case measure=>simp [intOf];omega
    · have HF:=Lib.hid (rest_bad hk1 HQ.out hqe);have hqb: (q != -1)=true:=by simp [hqe]
      clear hqe;exact absurd (HF.out.symm.trans HR.out) (by decide)
  · have hlti:¬ (k:Int) < 3:=by omega
    have HOK:=Lib.hid (rest_ok fun j q h1 h2 h3=>HJ.out j q h1 (by omega) h3);clear hk0 hk1 hk2 HJ hp3;have v0:=HW.out.v0;have v1:=HW.out.v1;have v2:=HW.out.v2;have v3:=HW.out.v3;have v4:=HW.out.v4;go_wp2_with fail;refine (variableC x.v o1 p1 W HKW.out (HD.out.1.mono fun _ _ _ hg=>dimAt.below (HX.out.bel.mono (by have:=HK.out.le;have:=HK.out.lt;omega)) hg)).mono ?_;rintro e w' ⟨rfl,hb⟩;have HB:=Lib.hid (HX.out.bel.trans (hb.mono HX.out.bel.size));clear hb;go_wp2_with fail;go_ret;exact ⟨retB HV.out.symm,HB.out⟩
set_option maxHeartbeats 1000000 in
set_option maxRecDepth 100000 in
theorem expr_else {B p g a:Nat} {h:MH} {m:ModelD} {x:ExprD} (w:World) (hk:Ck B w p h m) (hx:exprAt B w g a x) (hg:g < B) (hok:1≤x.op∧x.op≤39) (hrest:restB x=true) (hop:¬x.op=1∧¬x.op=2∧¬x.op=30∧¬x.op=38∧¬x.op=39):
 Calls Tryd.prog 55 #[.pointer (some ⟨p,0,none⟩),.pointer (some ⟨g,a,none⟩)] w fun e w'=>e= .returned (.bool (kindB m x))∧Below w.heap.size w w':=by
 have HK:=Lib.hid hk;obtain ⟨o1,p1,o2,p2,o3,p3,hxc,hd1,hd2,hd3⟩:=hx.xc;have HXC:=Lib.hid hxc;have HD:=Lib.hid (And.intro hd1 (And.intro hd2 hd3));have hgw:g < w.heap.size:=by have:=hk.le;have:=hk.lt;omega
 have HR:=Lib.hid hrest;have HV:Hid (kindB m x=true):=Lib.hid (by unfold kindB;rw [if_neg hop.1,if_neg hop.2.1,if_neg hop.2.2.1,if_neg hop.2.2.2.1,if_neg hop.2.2.2.2]);have b1: (x.op == 1)=false:=by simp [hop]
 have b2: (x.op == 2)=false:=by simp [hop]
 have b3: (x.op == 30)=false:=by simp [hop]
 have b4: (x.op == 38)=false:=by simp [hop]
 have b5: (x.op == 39)=false:=by simp [hop]
 clear hop;obtain ⟨k1,k2⟩:=hok;have c0:=hxc.c0;have HS:Hid (∀w',Below w.heap.size w w'→ (Below w.heap.size w w'∧w'.cell? ⟨g,a+2,none⟩=some (.int .i64 x.a)∧w'.cell? ⟨g,a+3,none⟩=some (.int .i64 x.b)∧w'.cell? ⟨g,a+4,none⟩=some (.int .i64 x.c))):=Lib.hid fun w' hb=>
  have h:=HXC.out.below hgw hb
  ⟨hb,h.c2,h.c3,h.c4⟩
 clear hxc hd1 hd2 hd3 hx hk hrest;go_enter Tryd.func55,Tryd.ntmps55;go_wp2_with fail
 go_region_held3 (fun w'=>Below w.heap.size w w'∧w'.cell? ⟨g,a+2,none⟩=some (.int .i64 x.a)∧w'.cell? ⟨g,a+3,none⟩=some (.int .i64 x.b)∧w'.cell? ⟨g,a+4,none⟩=some (.int .i64 x.c))
  (first | assumption | with_reducible exact HS.out _ (Below.refl _ _).drew | with_reducible exact HS.out _ (by assumption) | with_reducible exact HS.out _ (Below.alloc (And.left (by assumption)) (Below.size (And.left (by assumption))) _) | with_reducible exact HS.out _ (Below.drew (Below.alloc (Below.refl _ _) (Nat.le_refl _) _)))
  (fail)
 have HX:Hid (Bx w #[.int .i64 x.a,.int .i64 x.b,.int .i64 x.c] 144 (w.alloc (Obj.cells #[.int .i64 x.a,.int .i64 x.b,.int .i64 x.c] 144)).drew):=Lib.hid ((Bx.new w _ _).below (Below.refl _ _).drew);generalize (w.alloc (Obj.cells #[.int .i64 x.a,.int .i64 x.b,.int .i64 x.c] 144)).drew=W at HX ⊢;have HW:=Lib.hid (HXC.out.below hgw HX.out.bel);have HKW:=Lib.hid (HK.out.bx HX.out);have d0:=HW.out.c0;have d1:=HW.out.c1;clear HS c0;go_wp2_with fail;refine (partsOfC x.op W).mono ?_;rintro e w' ⟨rfl,rfl⟩;have hp3:=partsOf_le x.op;go_wp2_with fail
 go_loop [6] (fun iv=>∃k:Nat,iv= .int .i64 k∧partsOf x.op≤k∧k≤3∧Hid (∀j q,partsOf x.op≤j→j < k→ (abcL x)[j]? =some q→q= -1)) (fun iv=>3 - (intOf iv).toNat)
 case atStart=>exact ⟨partsOf x.op,rfl,Nat.le_refl _,hp3,Lib.hid fun j q h1 h2=>by omega⟩
 case round=>
  obtain ⟨k,rfl,hk1,hk2,HJ⟩:=hrel;have hk0: (0:Int)≤k:=by omega
  by_cases hlt:k < 3
  · have hlti: (k:Int) < 3:=by omega
    obtain ⟨q,hq1,hq2⟩:=abc_at HX.out hlt;have HQ:=Lib.hid hq2;clear hq2;by_cases hqe:q= -1
    · have hqb: (q != -1)=false:=by simp [hqe]
      have HQE:=Lib.hid hqe;clear hqe;go_wp2_with fail;go_round;case rel=>exact ⟨k+1,by go_num,by omega,by omega,Lib.hid fun j u h1 h2 h3=>by
       by_cases e:j=k
       · subst e;rw [HQ.out] at h3;injection h3 with h3
         rw [←h3,HQE.out]
       · exact HJ.out j u h1 (by omega) h3⟩
      case measure=>simp [intOf];omega
    · have HF:=Lib.hid (rest_bad hk1 HQ.out hqe);have hqb: (q != -1)=true:=by simp [hqe]
      clear hqe;exact absurd (HF.out.symm.trans HR.out) (by decide)
  · have hlti:¬ (k:Int) < 3:=by omega
    have HOK:=Lib.hid (rest_ok fun j q h1 h2 h3=>HJ.out j q h1 (by omega) h3);clear hk0 hk1 hk2 HJ hp3;go_wp2_with fail;go_ret;exact ⟨retB HV.out.symm,HX.out.bel⟩
end Go.Proofs.YtnoibjahliafpaaDoor
