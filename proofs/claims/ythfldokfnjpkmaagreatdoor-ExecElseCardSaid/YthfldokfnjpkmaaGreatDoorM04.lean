/- One expression, by itself: what its kind asks. -/
import Derived.Test.YthfldokfnjpkmaaGreatDoorM03
set_option linter.unusedVariables false
set_option linter.unusedSimpArgs false
namespace Go.Proofs.YthfldokfnjpkmaaGreatDoor
open Go.ChangeShapes Go.WideShapes Go.ChangeAt Go.RowKit
set_option maxHeartbeats 1000000 in
set_option maxRecDepth 100000 in
theorem expr_poll {B p g a:Nat} {h:MH} {m:ModelD} {x:ExprD} (w:World) (hk:Ck B w p h m) (hx:exprAt B w g a x) (hg:g < B) (hok:1≤x.op∧x.op≤39) (hrest:restB x=true) (hop:x.op=30):
 Calls Tryz.prog 171 #[.pointer (some ⟨p,0,none⟩),.pointer (some ⟨g,a,none⟩)] w fun e w'=>e= .returned (.bool (kindB m x))∧Below w.heap.size w w':=by
 have HK:=Lib.hid hk;obtain ⟨o1,p1,o2,p2,o3,p3,hxc,hd1,hd2,hd3⟩:=hx.xc;have HXC:=Lib.hid hxc;have HD:=Lib.hid (And.intro hd1 (And.intro hd2 hd3));have hgw:g < w.heap.size:=by have:=hk.le;have:=hk.lt;omega
 have HR:=Lib.hid hrest;have HV:Hid (kindB m x= (decide (x.n=0∨x.n=1) && fieldsB m x.args x.mat)):=Lib.hid (by unfold kindB;rw [if_neg (by omega),if_neg (by omega),if_pos hop]);have b1: (x.op == 1)=false:=by simp [hop]
 have b2: (x.op == 2)=false:=by simp [hop]
 have b3: (x.op == 30)=true:=by simp [hop]
 clear hop;obtain ⟨k1,k2⟩:=hok;have c0:=hxc.c0;have HS:Hid (∀w',Below w.heap.size w w'→ (Below w.heap.size w w'∧w'.cell? ⟨g,a+2,none⟩=some (.int .i64 x.a)∧w'.cell? ⟨g,a+3,none⟩=some (.int .i64 x.b)∧w'.cell? ⟨g,a+4,none⟩=some (.int .i64 x.c))):=Lib.hid fun w' hb=>
  have h:=HXC.out.below hgw hb
  ⟨hb,h.c2,h.c3,h.c4⟩
 clear hxc hd1 hd2 hd3 hx hk hrest;go_enter Tryz.func171,Tryz.ntmps171;go_wp2_with fail
 go_region_held3 (fun w'=>Below w.heap.size w w'∧w'.cell? ⟨g,a+2,none⟩=some (.int .i64 x.a)∧w'.cell? ⟨g,a+3,none⟩=some (.int .i64 x.b)∧w'.cell? ⟨g,a+4,none⟩=some (.int .i64 x.c))
  (first | assumption | with_reducible exact HS.out _ (Below.refl _ _).drew | with_reducible exact HS.out _ (by assumption) | with_reducible exact HS.out _ (Below.alloc (And.left (by assumption)) (Below.size (And.left (by assumption))) _) | with_reducible exact HS.out _ (Below.drew (Below.alloc (Below.refl _ _) (Nat.le_refl _) _)))
  (fail)
 have HX:Hid (Bx w #[.int .i64 x.a,.int .i64 x.b,.int .i64 x.c] 146 (w.alloc (Obj.cells #[.int .i64 x.a,.int .i64 x.b,.int .i64 x.c] 146)).drew):=Lib.hid ((Bx.new w _ _).below (Below.refl _ _).drew);generalize (w.alloc (Obj.cells #[.int .i64 x.a,.int .i64 x.b,.int .i64 x.c] 146)).drew=W at HX ⊢;have HW:=Lib.hid (HXC.out.below hgw HX.out.bel);have HKW:=Lib.hid (HK.out.bx HX.out);have d0:=HW.out.c0;have d1:=HW.out.c1;clear HS c0;go_wp2_with fail;refine (partsOfC x.op W).mono ?_;rintro e w' ⟨rfl,rfl⟩;have hp3:=partsOf_le x.op;go_wp2_with fail
 go_loop [6] (fun iv=>∃k:Nat,iv= .int .i64 k∧partsOf x.op≤k∧k≤3∧Hid (∀j q,partsOf x.op≤j→j < k→ (abcL x)[j]? =some q→q= -1)) (fun iv=>3 - (intOf iv).toNat)
 case atStart=>exact ⟨partsOf x.op,rfl,Nat.le_refl _,hp3,Lib.hid fun j q h1 h2=>by omega⟩
 case round=>
  obtain ⟨k,rfl,hk1,hk2,HJ⟩:=hrel;have hk0: (0:Int)≤k:=by omega
  by_cases hlt:k < 3
  · have hlti: (k:Int) < 3:=by omega
    obtain ⟨q,hq1,hq2⟩:=abc_at HX.out hlt;have HQ:=Lib.hid hq2;clear hq2;by_cases hqe:q= -1
    · have hqb: (q != -1)=false:=by simp [hqe]
      have HQE:=Lib.hid hqe;clear hqe;go_wp2_with fail;go_round;case rel=>exact ⟨k+1,by go_num,by omega,by omega,Lib.hid fun j u h1 h2 h3=>by
       by_cases e:j=k
       · subst e;rw [HQ.out] at h3;injection h3 with h3
         rw [←h3,HQE.out]
       · exact HJ.out j u h1 (by omega) h3⟩
      case measure=>simp [intOf];omega
    · have HF:=Lib.hid (rest_bad hk1 HQ.out hqe);have hqb: (q != -1)=true:=by simp [hqe]
      clear hqe;exact absurd (HF.out.symm.trans HR.out) (by decide)
  · have hlti:¬ (k:Int) < 3:=by omega
    have HOK:=Lib.hid (rest_ok fun j q h1 h2 h3=>HJ.out j q h1 (by omega) h3);clear hk0 hk1 hk2 HJ hp3;have c6:=HW.out.c6;have c7:=HW.out.c7;have HBW:Hid (B≤W.heap.size):=Lib.hid (by have:=HK.out.le;have:=HK.out.lt;have:=HX.out.bel.size;omega);have HC:Hid (∀nn,Calls Tryz.prog 194 #[.pointer (some ⟨p,0,none⟩),.slice o2 x.args.length p2,.slice o3 x.mat.length p3] (W.drewN nn) fun e w'=>e= .returned (.bool (fieldsB m x.args x.mat))∧w'=W.drewN nn):=Lib.hid fun nn=>by
     have hbb:Below B w (W.drewN nn):=(bdrew HX.out.bel nn).mono (by have:=HK.out.le;have:=HK.out.lt;omega);exact (fieldsC x.args x.mat o2 o3 p2 p3 (W.drewN nn) (HKW.out.below (bdrew (Below.refl _ _) nn)) (HD.out.2.1.mono fun _ _ _ hg=>intAt.below hbb hg) (HD.out.2.2.mono fun _ _ _ hg=>intAt.below hbb hg)).mono fun _ _ ⟨h1,h2⟩=>⟨h1,h2.symm⟩
    by_cases hn0:x.n=0
    · have HF:Hid (kindB m x=fieldsB m x.args x.mat):=Lib.hid (by rw [HV.out,decide_eq_true (.inl hn0)];simp);have n1: (x.n == 0)=true:=by simp [hn0]
      clear hn0;go_wp2_with fail;go_quiet ((go_at_call 194;exact Calls.quiet_of_same (HC.out _)));go_wp2_with fail;go_ret;exact ⟨retB HF.out.symm,bdrew HX.out.bel _⟩
    · by_cases hn1:x.n=1
      · have HF:Hid (kindB m x=fieldsB m x.args x.mat):=Lib.hid (by rw [HV.out,decide_eq_true (.inr hn1)];simp);have n1: (x.n == 0)=false:=by simp [hn0]
        have n2: (x.n == 1)=true:=by simp [hn1]
        clear hn0 hn1;go_wp2_with fail;go_quiet ((go_at_call 194;exact Calls.quiet_of_same (HC.out _)));go_wp2_with fail;go_ret;exact ⟨retB HF.out.symm,bdrew HX.out.bel _⟩
      · have HF:Hid (kindB m x=false):=Lib.hid (by rw [HV.out,decide_eq_false (by omega)];simp);have n1: (x.n == 0)=false:=by simp [hn0]
        have n2: (x.n == 1)=false:=by simp [hn1]
        clear hn0 hn1;go_wp2_with fail;go_quiet (fail);go_wp2_with fail;go_ret;exact ⟨retB HF.out.symm,bdrew HX.out.bel _⟩
set_option maxHeartbeats 1000000 in
set_option maxRecDepth 100000 in
theorem expr_run {B p g a:Nat} {h:MH} {m:ModelD} {x:ExprD} (w:World) (hk:Ck B w p h m) (hx:exprAt B w g a x) (hg:g < B) (hok:1≤x.op∧x.op≤39) (hrest:restB x=true) (hop:x.op=39):
 Calls Tryz.prog 171 #[.pointer (some ⟨p,0,none⟩),.pointer (some ⟨g,a,none⟩)] w fun e w'=>e= .returned (.bool (kindB m x))∧Below w.heap.size w w':=by
 have HK:=Lib.hid hk;obtain ⟨o1,p1,o2,p2,o3,p3,hxc,hd1,hd2,hd3⟩:=hx.xc;have HXC:=Lib.hid hxc;have HD:=Lib.hid (And.intro hd1 (And.intro hd2 hd3));have hgw:g < w.heap.size:=by have:=hk.le;have:=hk.lt;omega
 have HR:=Lib.hid hrest;have HV:Hid (kindB m x= (ptypeB m x.n && decide ((x.args.length:Int)=paramsAt m x.n))):=Lib.hid (by unfold kindB;rw [if_neg (by omega),if_neg (by omega),if_neg (by omega),if_neg (by omega),if_pos hop]);have b1: (x.op == 1)=false:=by simp [hop]
 have b2: (x.op == 2)=false:=by simp [hop]
 have b3: (x.op == 30)=false:=by simp [hop]
 have b4: (x.op == 38)=false:=by simp [hop]
 have b5: (x.op == 39)=true:=by simp [hop]
 clear hop;obtain ⟨k1,k2⟩:=hok;have c0:=hxc.c0;have HS:Hid (∀w',Below w.heap.size w w'→ (Below w.heap.size w w'∧w'.cell? ⟨g,a+2,none⟩=some (.int .i64 x.a)∧w'.cell? ⟨g,a+3,none⟩=some (.int .i64 x.b)∧w'.cell? ⟨g,a+4,none⟩=some (.int .i64 x.c))):=Lib.hid fun w' hb=>
  have h:=HXC.out.below hgw hb
  ⟨hb,h.c2,h.c3,h.c4⟩
 clear hxc hd1 hd2 hd3 hx hk hrest;go_enter Tryz.func171,Tryz.ntmps171;go_wp2_with fail
 go_region_held3 (fun w'=>Below w.heap.size w w'∧w'.cell? ⟨g,a+2,none⟩=some (.int .i64 x.a)∧w'.cell? ⟨g,a+3,none⟩=some (.int .i64 x.b)∧w'.cell? ⟨g,a+4,none⟩=some (.int .i64 x.c))
  (first | assumption | with_reducible exact HS.out _ (Below.refl _ _).drew | with_reducible exact HS.out _ (by assumption) | with_reducible exact HS.out _ (Below.alloc (And.left (by assumption)) (Below.size (And.left (by assumption))) _) | with_reducible exact HS.out _ (Below.drew (Below.alloc (Below.refl _ _) (Nat.le_refl _) _)))
  (fail)
 have HX:Hid (Bx w #[.int .i64 x.a,.int .i64 x.b,.int .i64 x.c] 146 (w.alloc (Obj.cells #[.int .i64 x.a,.int .i64 x.b,.int .i64 x.c] 146)).drew):=Lib.hid ((Bx.new w _ _).below (Below.refl _ _).drew);generalize (w.alloc (Obj.cells #[.int .i64 x.a,.int .i64 x.b,.int .i64 x.c] 146)).drew=W at HX ⊢;have HW:=Lib.hid (HXC.out.below hgw HX.out.bel);have HKW:=Lib.hid (HK.out.bx HX.out);have d0:=HW.out.c0;have d1:=HW.out.c1;clear HS c0;go_wp2_with fail;refine (partsOfC x.op W).mono ?_;rintro e w' ⟨rfl,rfl⟩;have hp3:=partsOf_le x.op;go_wp2_with fail
 go_loop [6] (fun iv=>∃k:Nat,iv= .int .i64 k∧partsOf x.op≤k∧k≤3∧Hid (∀j q,partsOf x.op≤j→j < k→ (abcL x)[j]? =some q→q= -1)) (fun iv=>3 - (intOf iv).toNat)
 case atStart=>exact ⟨partsOf x.op,rfl,Nat.le_refl _,hp3,Lib.hid fun j q h1 h2=>by omega⟩
 case round=>
  obtain ⟨k,rfl,hk1,hk2,HJ⟩:=hrel;have hk0: (0:Int)≤k:=by omega
  by_cases hlt:k < 3
  · have hlti: (k:Int) < 3:=by omega
    obtain ⟨q,hq1,hq2⟩:=abc_at HX.out hlt;have HQ:=Lib.hid hq2;clear hq2;by_cases hqe:q= -1
    · have hqb: (q != -1)=false:=by simp [hqe]
      have HQE:=Lib.hid hqe;clear hqe;go_wp2_with fail;go_round;case rel=>exact ⟨k+1,by go_num,by omega,by omega,Lib.hid fun j u h1 h2 h3=>by
       by_cases e:j=k
       · subst e;rw [HQ.out] at h3;injection h3 with h3
         rw [←h3,HQE.out]
       · exact HJ.out j u h1 (by omega) h3⟩
      case measure=>simp [intOf];omega
    · have HF:=Lib.hid (rest_bad hk1 HQ.out hqe);have hqb: (q != -1)=true:=by simp [hqe]
      clear hqe;exact absurd (HF.out.symm.trans HR.out) (by decide)
  · have hlti:¬ (k:Int) < 3:=by omega
    have HOK:=Lib.hid (rest_ok fun j q h1 h2 h3=>HJ.out j q h1 (by omega) h3);clear hk0 hk1 hk2 HJ hp3;have c6:=HW.out.c6;have HC:Hid (∀nn,Calls Tryz.prog 195 #[.pointer (some ⟨p,0,none⟩),.int .i64 x.n] (W.drewN nn) fun e w'=>e= .returned (.bool (ptypeB m x.n))∧w'=W.drewN nn):=Lib.hid fun nn=>
     (proctypeC x.n (W.drewN nn) (HKW.out.below (bdrew (Below.refl _ _) nn))).mono fun _ _ ⟨h1,h2⟩=>⟨h1,h2.symm⟩
    obtain ⟨pt,hpt⟩:∃b,ptypeB m x.n=b:=⟨_,rfl⟩;rw [hpt] at HC HV;cases pt
    · have HF:Hid (kindB m x=false):=Lib.hid (by rw [HV.out];rfl);go_wp2_with fail;go_quiet ((go_at_call 195;exact Calls.quiet_of_same (HC.out _)));go_wp2_with fail;go_ret;exact ⟨retB HF.out.symm,bdrew HX.out.bel _⟩
    · have hb:0≤x.n∧x.n < m.procs.length∧x.n≠m.claim:=by unfold ptypeB at hpt;simpa using hpt
      obtain ⟨k,hkn⟩:∃k:Nat,x.n=k:=⟨x.n.toNat,by omega⟩;have hkl:k < m.procs.length:=by omega
      obtain ⟨gp,offp,ho,hgp,hpr⟩:=HKW.out.md.procs.cell hkl;have c4':=HKW.out.c4;rw [ho] at c4';have HPA:Hid (paramsAt m (k:Int)=m.procs[k].params):=Lib.hid (by unfold paramsAt;rw [Int.toNat_natCast,List.getElem?_eq_getElem hkl];rfl);have e1:=hpr.c1;obtain ⟨prm,hprm⟩:∃q,m.procs[k].params=q:=⟨_,rfl⟩;rw [hprm] at HPA e1;rw [hkn] at HV HC d1;have hk0: (0:Int)≤k:=by omega
      have hk1: (k:Int) < m.procs.length:=by omega
      clear hpt hb ho hpr hprm hgp;by_cases he: (x.args.length:Int)=prm
      · have HF:Hid (kindB m x=true):=Lib.hid (by rw [HV.out,HPA.out,decide_eq_true he];rfl);have heq: ((x.args.length:Int) == prm)=true:=by simp [he]
        clear he hkn hkl;go_wp2_with fail;go_quiet ((go_at_call 195;exact Calls.quiet_of_same (HC.out _)));go_wp2_with fail;go_ret;exact ⟨retB HF.out.symm,bdrew HX.out.bel _⟩
      · have HF:Hid (kindB m x=false):=Lib.hid (by rw [HV.out,HPA.out,decide_eq_false he];rfl);have heq: ((x.args.length:Int) == prm)=false:=by simp [he]
        clear he hkn hkl;go_wp2_with fail;go_quiet ((go_at_call 195;exact Calls.quiet_of_same (HC.out _)));go_wp2_with fail;go_ret;exact ⟨retB HF.out.symm,bdrew HX.out.bel _⟩
set_option maxHeartbeats 1000000 in
set_option maxRecDepth 100000 in
theorem expr_at {B p g a:Nat} {h:MH} {m:ModelD} {x:ExprD} (w:World) (hk:Ck B w p h m) (hx:exprAt B w g a x) (hg:g < B) (hok:1≤x.op∧x.op≤39) (hrest:restB x=true) (hop:x.op=38):
 Calls Tryz.prog 171 #[.pointer (some ⟨p,0,none⟩),.pointer (some ⟨g,a,none⟩)] w fun e w'=>e= .returned (.bool (kindB m x))∧Below w.heap.size w w':=by
 have HK:=Lib.hid hk;obtain ⟨o1,p1,o2,p2,o3,p3,hxc,hd1,hd2,hd3⟩:=hx.xc;have HXC:=Lib.hid hxc;have HD:=Lib.hid (And.intro hd1 (And.intro hd2 hd3));have hgw:g < w.heap.size:=by have:=hk.le;have:=hk.lt;omega
 have HR:=Lib.hid hrest;have HV:Hid (kindB m x=atB m x):=Lib.hid (by unfold kindB;rw [if_neg (by omega),if_neg (by omega),if_neg (by omega),if_pos hop]);have b1: (x.op == 1)=false:=by simp [hop]
 have b2: (x.op == 2)=false:=by simp [hop]
 have b3: (x.op == 30)=false:=by simp [hop]
 have b4: (x.op == 38)=true:=by simp [hop]
 clear hop;obtain ⟨k1,k2⟩:=hok;have c0:=hxc.c0;have HS:Hid (∀w',Below w.heap.size w w'→ (Below w.heap.size w w'∧w'.cell? ⟨g,a+2,none⟩=some (.int .i64 x.a)∧w'.cell? ⟨g,a+3,none⟩=some (.int .i64 x.b)∧w'.cell? ⟨g,a+4,none⟩=some (.int .i64 x.c))):=Lib.hid fun w' hb=>
  have h:=HXC.out.below hgw hb
  ⟨hb,h.c2,h.c3,h.c4⟩
 clear hxc hd1 hd2 hd3 hx hk hrest;go_enter Tryz.func171,Tryz.ntmps171;go_wp2_with fail
 go_region_held3 (fun w'=>Below w.heap.size w w'∧w'.cell? ⟨g,a+2,none⟩=some (.int .i64 x.a)∧w'.cell? ⟨g,a+3,none⟩=some (.int .i64 x.b)∧w'.cell? ⟨g,a+4,none⟩=some (.int .i64 x.c))
  (first | assumption | with_reducible exact HS.out _ (Below.refl _ _).drew | with_reducible exact HS.out _ (by assumption) | with_reducible exact HS.out _ (Below.alloc (And.left (by assumption)) (Below.size (And.left (by assumption))) _) | with_reducible exact HS.out _ (Below.drew (Below.alloc (Below.refl _ _) (Nat.le_refl _) _)))
  (fail)
 have HX:Hid (Bx w #[.int .i64 x.a,.int .i64 x.b,.int .i64 x.c] 146 (w.alloc (Obj.cells #[.int .i64 x.a,.int .i64 x.b,.int .i64 x.c] 146)).drew):=Lib.hid ((Bx.new w _ _).below (Below.refl _ _).drew);generalize (w.alloc (Obj.cells #[.int .i64 x.a,.int .i64 x.b,.int .i64 x.c] 146)).drew=W at HX ⊢;have HW:=Lib.hid (HXC.out.below hgw HX.out.bel);have HKW:=Lib.hid (HK.out.bx HX.out);have d0:=HW.out.c0;have d1:=HW.out.c1;clear HS c0;go_wp2_with fail;refine (partsOfC x.op W).mono ?_;rintro e w' ⟨rfl,rfl⟩;have hp3:=partsOf_le x.op;go_wp2_with fail
 go_loop [6] (fun iv=>∃k:Nat,iv= .int .i64 k∧partsOf x.op≤k∧k≤3∧Hid (∀j q,partsOf x.op≤j→j < k→ (abcL x)[j]? =some q→q= -1)) (fun iv=>3 - (intOf iv).toNat)
 case atStart=>exact ⟨partsOf x.op,rfl,Nat.le_refl _,hp3,Lib.hid fun j q h1 h2=>by omega⟩
 case round=>
  obtain ⟨k,rfl,hk1,hk2,HJ⟩:=hrel;have hk0: (0:Int)≤k:=by omega
  by_cases hlt:k < 3
  · have hlti: (k:Int) < 3:=by omega
    obtain ⟨q,hq1,hq2⟩:=abc_at HX.out hlt;have HQ:=Lib.hid hq2;clear hq2;by_cases hqe:q= -1
    · have hqb: (q != -1)=false:=by simp [hqe]
      have HQE:=Lib.hid hqe;clear hqe;go_wp2_with fail;go_round;case rel=>exact ⟨k+1,by go_num,by omega,by omega,Lib.hid fun j u h1 h2 h3=>by
       by_cases e:j=k
       · subst e;rw [HQ.out] at h3;injection h3 with h3
         rw [←h3,HQE.out]
       · exact HJ.out j u h1 (by omega) h3⟩
      case measure=>simp [intOf];omega
    · have HF:=Lib.hid (rest_bad hk1 HQ.out hqe);have hqb: (q != -1)=true:=by simp [hqe]
      clear hqe;exact absurd (HF.out.symm.trans HR.out) (by decide)
  · have hlti:¬ (k:Int) < 3:=by omega
    have HOK:=Lib.hid (rest_ok fun j q h1 h2 h3=>HJ.out j q h1 (by omega) h3);clear hk0 hk1 hk2 HJ hp3;have c6:=HW.out.c6;have hal:=HD.out.2.1.1;have HPT:=Lib.hid (proctypeC x.n W HKW.out);obtain ⟨pt,hpt⟩:∃b,ptypeB m x.n=b:=⟨_,rfl⟩;rw [hpt] at HPT;have HQT:=Lib.hid hpt;go_wp2_with fail;refine HPT.out.mono ?_;rintro e w' ⟨rfl,rfl⟩;cases pt
    · have HF:Hid (kindB m x=false):=Lib.hid (by rw [HV.out];unfold atB;rw [hpt];rfl);clear hpt;go_wp2_with fail;go_ret;exact ⟨retB HF.out.symm,HX.out.bel⟩
    · by_cases hz:x.args.length=0
      · have HF:Hid (kindB m x=false):=Lib.hid (by rw [HV.out];unfold atB;rw [decide_eq_true hz];simp);have hzb: ((x.args.length:Int) == 0)=true:=by simp [hz]
        clear hz hpt;go_wp2_with fail;go_ret;exact ⟨retB HF.out.symm,HX.out.bel⟩
      · have HF:Hid (kindB m x=x.args.all (fun q=>decide (0≤q∧q < locsAt m x.n))):=Lib.hid (by rw [HV.out];unfold atB;rw [hpt,decide_eq_false hz];simp);have hzb: ((x.args.length:Int) == 0)=false:=by rw [beq_eq_false_iff_ne];omega
        have hb:0≤x.n∧x.n < m.procs.length∧x.n≠m.claim:=by unfold ptypeB at hpt;simpa using hpt
        obtain ⟨k,hkn⟩:∃k:Nat,x.n=k:=⟨x.n.toNat,by omega⟩;have hkl:k < m.procs.length:=by omega
        have hwW:Hid (∀nn,Below B w (W.drewN nn)):=Lib.hid fun nn=>(bdrew HX.out.bel nn).mono (by have:=HK.out.le;have:=HK.out.lt;omega)
        have HKN:Hid (∀nn,Ck B (W.drewN nn) p h m∧XC (W.drewN nn) g a x o1 p1 o2 p2 o3 p3):=Lib.hid fun nn=>⟨HKW.out.below (bdrew (Below.refl _ _) nn),HXC.out.below hg (hwW.out nn)⟩
        obtain ⟨pr,hget⟩:∃pr,m.procs[k]? =some pr:=⟨_,List.getElem?_eq_getElem hkl⟩;have HLA:Hid (locsAt m (k:Int)=pr.locs.length):=Lib.hid (by unfold locsAt;rw [Int.toNat_natCast,hget];rfl);have HKL:=Lib.hid hget;rw [hkn] at HF;have HKQ:=Lib.hid hkn;have hk0: (0:Int)≤k:=by omega
        have hk1: (k:Int) < m.procs.length:=by omega
        clear hpt hb hz hget hkn hkl;go_wp2_with fail;clear hzb
        go_loopw [115] (fun iv wr=>∃ (i nn:Nat),iv= .int .i64 i∧i≤x.args.length∧wr=W.drewN nn∧Hid (∀j (hj:j < x.args.length),j < i→0≤x.args[j]∧x.args[j] < locsAt m (k:Int))) (fun iv _=>x.args.length - (intOf iv).toNat)
        case atStart=>exact ⟨0,0,rfl,by omega,rfl,Lib.hid fun j _ h=>by omega⟩
        case round=>
         obtain ⟨i,nn,rfl,hi,rfl,HJ⟩:=hrel;have hi0: (0:Int)≤i:=by omega
         have HXN:=Lib.hid (HKN.out nn).2;have HKK:=Lib.hid (HKN.out nn).1;have HBN:=Lib.hid (bdrew HX.out.bel nn);have HRA:=Lib.hid (HD.out.2.1.mono fun _ _ _ hg=>intAt.below (hwW.out nn) hg);by_cases hlt:i < x.args.length
         · have hlti: (i:Int) < x.args.length:=by omega
           obtain ⟨ga,offa,hoa,hga,hca⟩:=HRA.out.cell hlt;obtain ⟨gp,offp,hop,hgp,hpr⟩:=HKK.out.md.procs.get HKL.out;obtain ⟨lo,lc,hl1,-⟩:=hpr.locs;have e4:=HKK.out.c4;rw [hop] at e4;have e5:=HXN.out.c1;rw [HKQ.out] at e5;have e6: (W.drewN nn).cell? ⟨gp,offp+k*10+4,none⟩=some (.slice lo pr.locs.length lc):=hl1;rw [←HLA.out] at e6;obtain ⟨nl,hnl⟩:∃n,locsAt m (k:Int)=n:=⟨_,rfl⟩;obtain ⟨q,hq⟩:∃q,x.args[i]=q:=⟨_,rfl⟩;have e7: (W.drewN nn).cell? ⟨ga,offa+i,none⟩=some (.int .i64 q):=by
            have:=hca;unfold intAt at this;rw [Nat.mul_one,hq] at this;exact this
           rw [hnl] at e6;subst hoa;have HBAD:Hid (¬ (0≤q∧q < nl)→kindB m x=false):=Lib.hid fun h=>by
            rw [HF.out];exact all_bad hlt (by rw [hq,hnl];exact decide_eq_false h)
           have HGO:Hid (0≤q∧q < nl→∀j (hj:j < x.args.length),j < i+1→0≤x.args[j]∧x.args[j] < locsAt m (k:Int)):=Lib.hid fun h j hj hji=>by
            by_cases e:j=i
            · subst e;rw [hq,hnl];exact h
            · exact HJ.out j hj (by omega)
           clear hca hga hpr hgp hl1 hnl hq hop;obtain ⟨X,hX⟩:∃X,W.drewN nn=X:=⟨_,rfl⟩;have HXE:=Lib.hid hX;rw [hX] at HBN e4 e5 e6 e7 ⊢;clear hX;by_cases hq0:q < 0
           · have HZ:=Lib.hid (HBAD.out (by omega));go_wp2_with fail;go_quiet (fail);go_wp2_with fail;go_ret;exact ⟨retB HZ.out.symm,bdrew HBN.out _⟩
           · have hq1:decide (q < 0)=false:=by simpa using hq0
             by_cases hqn:q < nl
             · have HZ:=Lib.hid (HGO.out ⟨by omega,hqn⟩);have hqd:decide ((nl:Int)≤q)=false:=by simpa using hqn
               go_wp2_with fail;go_quiet (fail);go_wp2_with fail;go_roundw;case rel=>exact ⟨i+1,nn+_,by go_num,by omega,by rw [←HXE.out];exact World.drewN_drewN _ _ _,HZ⟩
               case measure=>simp [intOf];omega
             · have HZ:=Lib.hid (HBAD.out (by omega));have hqd:decide ((nl:Int)≤q)=true:=by simpa using hqn
               go_wp2_with fail;go_quiet (fail);go_wp2_with fail;go_ret;exact ⟨retB HZ.out.symm,bdrew HBN.out _⟩
         · have hlti:¬ (i:Int) < x.args.length:=by omega
           have HZ:Hid (kindB m x=true):=Lib.hid (by rw [HF.out];exact all_of fun j hj=>decide_eq_true (HJ.out j hj (by omega)));go_wp2_with fail;go_ret;exact ⟨retB HZ.out.symm,HBN.out⟩
theorem expressionC {B p g a:Nat} {h:MH} {m:ModelD} {x:ExprD} (w:World) (hk:Ck B w p h m) (hx:exprAt B w g a x) (hg:g < B):
 Calls Tryz.prog 171 #[.pointer (some ⟨p,0,none⟩),.pointer (some ⟨g,a,none⟩)] w fun e w'=>e= .returned (.bool (exprB m x))∧Below w.heap.size w w':=by
 by_cases hbad:x.op < 1∨39 < x.op
 · exact expr_range w hk hx hg hbad
 · have hok:1≤x.op∧x.op≤39:=by omega
   cases hr:restB x
   · exact expr_rest w hk hx hg hok hr
   · have hv:exprB m x=kindB m x:=by unfold exprB;rw [hr,decide_eq_true hok];simp
     rw [hv];by_cases h1:x.op=1
     · exact expr_num w hk hx hg hok hr h1
     by_cases h2:x.op=2
     · exact expr_var w hk hx hg hok hr h2
     by_cases h3:x.op=30
     · exact expr_poll w hk hx hg hok hr h3
     by_cases h4:x.op=38
     · exact expr_at w hk hx hg hok hr h4
     by_cases h5:x.op=39
     · exact expr_run w hk hx hg hok hr h5
     · exact expr_else w hk hx hg hok hr ⟨h1,h2,h3,h4,h5⟩
end Go.Proofs.YthfldokfnjpkmaaGreatDoor
namespace Go.Proofs.YthfldokfnjpkmaaGreatDoor
open Go.ChangeShapes Go.WideShapes Go.ChangeAt Go.RowKit
def Box3 (W W':World):Prop:=∀ (b:Nat) (cs:Array Value) (fr:Nat × Nat),W.heap[b]? =some (.cells cs 146 fr)→W'.heap[b]? =some (.cells cs 146 fr)
structure Doer (B F:Nat) (caps:Array Value) {σ:Type} (f:σ→Int→σ) (J:σ→World→Prop) (ok:σ→Int→Prop):Prop where
 call:∀s W q,J s W→ok s q→Calls Tryz.prog F (#[.int .i64 q] ++ caps) W fun e W'=>e= .returned (.tuple #[])∧J (f s q) W'∧Below B W W'∧W.heap.size≤W'.heap.size∧Box3 W W'
 below:∀s W W',J s W→Below W.heap.size W W'→J s W'
 run:∀args w,(callFunc F args).run Tryz.prog w= .ok (.enter F args) w
theorem fold_take {σ α:Type} {f:σ→α→σ} {l:List α} {k:Nat} {q:α} {s:σ} (h:l[k]? =some q): (l.take (k+1)).foldl f s=f ((l.take k).foldl f s) q:=by
 obtain ⟨hk,rfl⟩:=List.getElem?_eq_some_iff.1 h;rw [List.take_succ_eq_append_getElem hk,List.foldl_append];rfl
theorem abc_cell {W:World} {x:ExprD} {b:Nat} (h:W.heap[b]? =some (.cells #[.int .i64 x.a,.int .i64 x.b,.int .i64 x.c] 146 (0,0))) {k:Nat} (hk:k < 3):∃q,W.cell? ⟨b,k,none⟩=some (.int .i64 q)∧ (abcL x)[k]? =some q:=by
 match k,hk with
 | 0,_=>exact ⟨x.a,(cell_of_row _ _ _ _ _ _ h).trans rfl,rfl⟩
 | 1,_=>exact ⟨x.b,(cell_of_row _ _ _ _ _ _ h).trans rfl,rfl⟩
 | 2,_=>exact ⟨x.c,(cell_of_row _ _ _ _ _ _ h).trans rfl,rfl⟩
theorem split_at {l:List Int} {k:Nat} {q:Int} (h:l[k]? =some q):l=l.take k ++ q :: l.drop (k+1):=by
 obtain ⟨hk,rfl⟩:=List.getElem?_eq_some_iff.1 h;rw [←List.drop_eq_getElem_cons hk,List.take_append_drop]
theorem parts_at {x:ExprD} {k:Nat} {q:Int} (hk:k < partsOf x.op) (h: (abcL x)[k]? =some q):∃l2,partsL x= (abcL x).take k ++ q :: l2:=by
 have h1: ((abcL x).take (partsOf x.op))[k]? =some q:=by rw [List.getElem?_take_of_lt hk];exact h
 have h2:=split_at h1;rw [List.take_take,Nat.min_eq_left (by omega)] at h2;unfold partsL;rw [h2,List.append_assoc];exact ⟨_,rfl⟩
structure PJ (B:Nat) (w0:World) {σ:Type} (J:σ→World→Prop) (x:ExprD) (s:σ) (W:World):Prop where
 j:J s W
 bel:Below B w0 W
 box:W.heap[w0.heap.size]? =some (.cells #[.int .i64 x.a,.int .i64 x.b,.int .i64 x.c] 146 (0,0))
set_option maxHeartbeats 2000000 in
set_option maxRecDepth 100000 in
theorem partsC {B g a F:Nat} {x:ExprD} {caps:Array Value} {σ:Type} {f:σ→Int→σ} {J:σ→World→Prop} {ok:σ→Int→Prop} (D:Doer B F caps f J ok) (pv:Value) (s0:σ) (w:World) (hB:B≤w.heap.size) (hx:exprAt B w g a x) (hg:g < B) (hj:J s0 w) (hok:∀l1 q l2,partsL x=l1 ++ q :: l2→ok (l1.foldl f s0) q):
 Calls Tryz.prog 172 #[pv,.pointer (some ⟨g,a,none⟩),.func (.func F) #[] caps] w fun e w'=>e= .returned (.tuple #[])∧J ((partsL x).foldl f s0) w'∧Below B w w':=by
 have HDo:=Lib.hid D;obtain ⟨o1,p1,o2,p2,o3,p3,hxc,hd1,hd2,hd3⟩:=hx.xc;have HXC:=Lib.hid hxc;have HD:=Lib.hid (And.intro hd1 hd2);have hgw:g < w.heap.size:=by omega
 have HJ0:=Lib.hid hj;have HOK:=Lib.hid hok;have hdn:=hd1.1;have han:=hd2.1;have HS:Hid (∀w',Below w.heap.size w w'→ (Below w.heap.size w w'∧w'.cell? ⟨g,a+2,none⟩=some (.int .i64 x.a)∧w'.cell? ⟨g,a+3,none⟩=some (.int .i64 x.b)∧w'.cell? ⟨g,a+4,none⟩=some (.int .i64 x.c))):=Lib.hid fun w' hb=>
  have h:=HXC.out.below hgw hb
  ⟨hb,h.c2,h.c3,h.c4⟩
 clear hxc hd1 hd2 hd3 hx hj hok D;have h2:=(HS.out _ (Below.refl _ w)).2.1;have h3:=(HS.out _ (Below.refl _ w)).2.2.1;have h4:=(HS.out _ (Below.refl _ w)).2.2.2;go_enter Tryz.func172,Tryz.ntmps172;clear h2 h3 h4;go_wp2_with fail
 go_region_held3 (fun w'=>Below w.heap.size w w'∧w'.cell? ⟨g,a+2,none⟩=some (.int .i64 x.a)∧w'.cell? ⟨g,a+3,none⟩=some (.int .i64 x.b)∧w'.cell? ⟨g,a+4,none⟩=some (.int .i64 x.c))
  (first | assumption | with_reducible exact HS.out _ (Below.refl _ _).drew | with_reducible exact HS.out _ (by assumption) | with_reducible exact HS.out _ (Below.alloc (And.left (by assumption)) (Below.size (And.left (by assumption))) _) | with_reducible exact HS.out _ (Below.drew (Below.alloc (Below.refl _ _) (Nat.le_refl _) _)))
  (fail)
 have HP:Hid (PJ B w J x s0 (w.alloc (Obj.cells #[.int .i64 x.a,.int .i64 x.b,.int .i64 x.c] 146)).drew):=Lib.hid (by
  have hb:Below w.heap.size w (w.alloc (Obj.cells #[.int .i64 x.a,.int .i64 x.b,.int .i64 x.c] 146)).drew:=(ball _).drew;exact ⟨HDo.out.below _ _ _ HJ0.out hb,hb.mono hB,heap_alloc_new _ _⟩)
 generalize (w.alloc (Obj.cells #[.int .i64 x.a,.int .i64 x.b,.int .i64 x.c] 146)).drew=W at HP ⊢;clear HS HJ0;have d0:=(HXC.out.below hg HP.out.bel).c0;go_wp2_with fail;refine (partsOfC x.op W).mono ?_;rintro e w' ⟨rfl,rfl⟩;have hp3:=partsOf_le x.op;clear d0;go_wp2_with fail
 go_loopw [29] (fun iv W=>∃k:Nat,iv= .int .i64 k∧k≤partsOf x.op∧Hid (PJ B w J x (((abcL x).take k).foldl f s0) W)) (fun iv _=>partsOf x.op - (intOf iv).toNat)
 case atStart=>exact ⟨0,rfl,by omega,HP⟩
 case round=>
  obtain ⟨k,rfl,hk,HJ⟩:=hrel;have hk0: (0:Int)≤k:=by omega
  by_cases hlt:k < partsOf x.op
  · have hlti: (k:Int) < partsOf x.op:=by omega
    have hk3: (k:Int) < 3:=by omega
    obtain ⟨q,hq1,hq2⟩:=abc_cell HJ.out.box (k:=k) (by omega);have HQ:=Lib.hid hq2;have HPA:Hid (ok (((abcL x).take k).foldl f s0) q):=Lib.hid (by obtain ⟨l2,h2⟩:=parts_at hlt hq2;exact HOK.out _ _ _ h2);have hrun:=HDo.out.run;clear hq2;go_wp2_with fail;clear hrun;refine (HDo.out.call _ _ _ HJ.out.j (HPA.out)).mono ?_;rintro e W' ⟨rfl,hj,hb,hsz,hbx⟩;have HN:Hid (PJ B w J x (((abcL x).take (k+1)).foldl f s0) W'):=Lib.hid (by
     rw [fold_take HQ.out];exact ⟨hj,HJ.out.bel.trans hb,hbx _ _ _ HJ.out.box⟩)
    clear hj hb hsz hbx hq1;go_wp2_with fail;go_roundw;case rel=>exact ⟨k+1,by go_num,by omega,HN⟩
    case measure=>simp [intOf];omega
  · have hlti:¬ (k:Int) < partsOf x.op:=by omega
    obtain rfl:k=partsOf x.op:=by omega
    obtain ⟨s1,hs1⟩:∃s1,((abcL x).take (partsOf x.op)).foldl f s0=s1:=⟨_,rfl⟩;have HPF:Hid ((partsL x).foldl f s0= (moreL x).foldl f s1):=Lib.hid (by unfold partsL;rw [List.foldl_append,hs1]);have HM0:Hid (∀l1 q l2,moreL x=l1 ++ q :: l2→ok (l1.foldl f s1) q):=Lib.hid fun l1 q l2 hq=>by
     have h5:=HOK.out ((abcL x).take (partsOf x.op) ++ l1) q l2 (by unfold partsL;rw [hq,List.append_assoc]);rw [List.foldl_append,hs1] at h5;exact h5
    rw [hs1] at HJ;have HXN:=Lib.hid (HXC.out.below hg HJ.out.bel);have d0:=HXN.out.c0;clear hs1 hlt hk hk0 hp3;by_cases h2:x.op=2
    · have b1: (x.op == 2)=true:=by simp [h2]
      have d1:=HXN.out.v0;by_cases hr:x.v.scope=2
      · have b2: (x.v.scope == 2)=true:=by simp [hr]
        have HPL:Hid ((partsL x).foldl f s0= ([x.v.who] ++ x.v.dims.map (·.i)).foldl f s1):=Lib.hid (by rw [HPF.out];unfold moreL;rw [if_pos h2,if_pos hr]);have HM1:Hid (ok s1 x.v.who):=Lib.hid (HM0.out [] _ (x.v.dims.map (·.i)) (by unfold moreL;rw [if_pos h2,if_pos hr];rfl));have HM2:Hid (∀l1 q l2,x.v.dims.map (·.i)=l1 ++ q :: l2→ok (l1.foldl f ([x.v.who].foldl f s1)) q):=Lib.hid fun l1 q l2 hq=>HM0.out (x.v.who :: l1) q l2 (by unfold moreL;rw [if_pos h2,if_pos hr,hq];rfl)
        have d2:=HXN.out.v2;have hrun:=HDo.out.run;clear h2 hr;go_wp2_with fail;clear hrun;refine (HDo.out.call _ _ _ HJ.out.j HM1.out).mono ?_;rintro e W' ⟨rfl,hj,hb,hsz,hbx⟩;have HS1:Hid (PJ B w J x ([x.v.who].foldl f s1) W'):=Lib.hid ⟨hj,HJ.out.bel.trans hb,hbx _ _ _ HJ.out.box⟩;clear hj hb hsz hbx d0 d1 d2 HXN;have HXN:=Lib.hid (HXC.out.below hg HS1.out.bel);have e4:=HXN.out.v4;go_wp2_with fail;clear e4
        go_loopw [63] (fun iv W=>∃k:Nat,iv= .int .i64 k∧k≤x.v.dims.length∧Hid (PJ B w J x (((x.v.dims.map (·.i)).take k).foldl f ([x.v.who].foldl f s1)) W)) (fun iv _=>x.v.dims.length - (intOf iv).toNat)
        case atStart=>exact ⟨0,rfl,by omega,HS1⟩
        case round=>
         obtain ⟨k,rfl,hk,HJ⟩:=hrel;have hk0: (0:Int)≤k:=by omega
         by_cases hlt:k < x.v.dims.length
         · have hlti: (k:Int) < x.v.dims.length:=by omega
           obtain ⟨gd,offd,hod,hgd,hcd,-⟩:=(HD.out.1.mono fun _ _ _ hg=>dimAt.below HJ.out.bel hg).cell hlt;obtain ⟨q,hq⟩:∃q,x.v.dims[k].i=q:=⟨_,rfl⟩;rw [hq] at hcd;have HQ:Hid ((x.v.dims.map (·.i))[k]? =some q):=Lib.hid (by rw [List.getElem?_map,List.getElem?_eq_getElem hlt];simp [hq]);have e4:=(HXC.out.below hg HJ.out.bel).v4;rw [hod] at e4;have hrun:=HDo.out.run;clear hod hgd hq;go_wp2_with fail;clear hrun;refine (HDo.out.call _ _ _ HJ.out.j (HM2.out _ _ _ (split_at HQ.out))).mono ?_;rintro e W' ⟨rfl,hj,hb,hsz,hbx⟩;have HN:Hid (PJ B w J x (((x.v.dims.map (·.i)).take (k+1)).foldl f ([x.v.who].foldl f s1)) W'):=Lib.hid (by
            rw [fold_take HQ.out];exact ⟨hj,HJ.out.bel.trans hb,hbx _ _ _ HJ.out.box⟩)
           clear hj hb hsz hbx hcd e4;go_wp2_with fail;go_roundw;case rel=>exact ⟨k+1,by go_num,by omega,HN⟩
           case measure=>simp [intOf];omega
         · have hlti:¬ (k:Int) < x.v.dims.length:=by omega
           have HE:Hid (((x.v.dims.map (·.i)).take k)=x.v.dims.map (·.i)):=Lib.hid (List.take_of_length_le (by rw [List.length_map];omega));have HZ:=HJ.out;rw [HE.out] at HZ;have HY:=Lib.hid HZ;clear HZ;go_wp2_with fail;go_end0;exact ⟨rfl,by rw [HPL.out,List.foldl_append];exact HY.out.j,HY.out.bel⟩
      · have b2: (x.v.scope == 2)=false:=by simp [hr]
        have HPL:Hid ((partsL x).foldl f s0= (([]:List Int) ++ x.v.dims.map (·.i)).foldl f s1):=Lib.hid (by rw [HPF.out];unfold moreL;rw [if_pos h2,if_neg hr]);have HM2:Hid (∀l1 q l2,x.v.dims.map (·.i)=l1 ++ q :: l2→ok (l1.foldl f s1) q):=Lib.hid fun l1 q l2 hq=>HM0.out l1 q l2 (by unfold moreL;rw [if_pos h2,if_neg hr,hq];rfl)
        have HS1:=HJ;clear h2 hr;have e4:=HXN.out.v4;go_wp2_with fail;clear e4
        go_loopw [63] (fun iv W=>∃k:Nat,iv= .int .i64 k∧k≤x.v.dims.length∧Hid (PJ B w J x (((x.v.dims.map (·.i)).take k).foldl f s1) W)) (fun iv _=>x.v.dims.length - (intOf iv).toNat)
        case atStart=>exact ⟨0,rfl,by omega,HS1⟩
        case round=>
         obtain ⟨k,rfl,hk,HJ⟩:=hrel;have hk0: (0:Int)≤k:=by omega
         by_cases hlt:k < x.v.dims.length
         · have hlti: (k:Int) < x.v.dims.length:=by omega
           obtain ⟨gd,offd,hod,hgd,hcd,-⟩:=(HD.out.1.mono fun _ _ _ hg=>dimAt.below HJ.out.bel hg).cell hlt;obtain ⟨q,hq⟩:∃q,x.v.dims[k].i=q:=⟨_,rfl⟩;rw [hq] at hcd;have HQ:Hid ((x.v.dims.map (·.i))[k]? =some q):=Lib.hid (by rw [List.getElem?_map,List.getElem?_eq_getElem hlt];simp [hq]);have e4:=(HXC.out.below hg HJ.out.bel).v4;rw [hod] at e4;have hrun:=HDo.out.run;clear hod hgd hq;go_wp2_with fail;clear hrun;refine (HDo.out.call _ _ _ HJ.out.j (HM2.out _ _ _ (split_at HQ.out))).mono ?_;rintro e W' ⟨rfl,hj,hb,hsz,hbx⟩;have HN:Hid (PJ B w J x (((x.v.dims.map (·.i)).take (k+1)).foldl f s1) W'):=Lib.hid (by
            rw [fold_take HQ.out];exact ⟨hj,HJ.out.bel.trans hb,hbx _ _ _ HJ.out.box⟩)
           clear hj hb hsz hbx hcd e4;go_wp2_with fail;go_roundw;case rel=>exact ⟨k+1,by go_num,by omega,HN⟩
           case measure=>simp [intOf];omega
         · have hlti:¬ (k:Int) < x.v.dims.length:=by omega
           have HE:Hid (((x.v.dims.map (·.i)).take k)=x.v.dims.map (·.i)):=Lib.hid (List.take_of_length_le (by rw [List.length_map];omega));have HZ:=HJ.out;rw [HE.out] at HZ;have HY:=Lib.hid HZ;clear HZ;go_wp2_with fail;go_end0;exact ⟨rfl,by rw [HPL.out,List.foldl_append];exact HY.out.j,HY.out.bel⟩
    · have b1: (x.op == 2)=false:=by simp [h2]
      by_cases h3:x.op=30∨x.op=39
      · have HPL:Hid ((partsL x).foldl f s0=x.args.foldl f s1):=Lib.hid (by rw [HPF.out];unfold moreL;rw [if_neg h2,if_pos h3]);have HM2:Hid (∀l1 q l2,x.args=l1 ++ q :: l2→ok (l1.foldl f s1) q):=Lib.hid fun l1 q l2 hq=>HM0.out l1 q l2 (by unfold moreL;rw [if_neg h2,if_pos h3,hq])
        have e6:=HXN.out.c6;have h34: ((x.op == 30)=true)∨ ((x.op == 30)=false∧ (x.op == 39)=true):=by
         rcases h3 with h | h
         · exact .inl (by simp [h])
         · exact .inr (by simp [h])
        clear h2 h3;rcases h34 with b2 | ⟨b2,b3⟩
        all_goals (
         go_wp2_with fail;clear e6
         go_loopw [86] (fun iv W=>∃k:Nat,iv= .int .i64 k∧k≤x.args.length∧Hid (PJ B w J x ((x.args.take k).foldl f s1) W)) (fun iv _=>x.args.length - (intOf iv).toNat)
         case atStart=>exact ⟨0,rfl,by omega,HJ⟩
         case round=>
          clear HJ;obtain ⟨k,rfl,hk,HJ⟩:=hrel;have hk0: (0:Int)≤k:=by omega
          by_cases hlt:k < x.args.length
          · have hlti: (k:Int) < x.args.length:=by omega
            obtain ⟨gd,offd,hod,hgd,hcd⟩:=(HD.out.2.mono fun _ _ _ hg=>intAt.below HJ.out.bel hg).cell hlt;obtain ⟨q,hq⟩:∃q,x.args[k]=q:=⟨_,rfl⟩;have HQ:Hid (x.args[k]? =some q):=Lib.hid (by rw [List.getElem?_eq_getElem hlt,hq]);have hcd2:wr.cell? ⟨gd,offd+k,none⟩=some (.int .i64 q):=by unfold intAt at hcd;rw [Nat.mul_one,hq] at hcd;exact hcd
            have hrun:=HDo.out.run;subst hod;clear hgd hq hcd;go_wp2_with fail;clear hrun;refine (HDo.out.call _ _ _ HJ.out.j (HM2.out _ _ _ (split_at HQ.out))).mono ?_;rintro e W' ⟨rfl,hj,hb,hsz,hbx⟩;have HN:Hid (PJ B w J x ((x.args.take (k+1)).foldl f s1) W'):=Lib.hid (by
             rw [fold_take HQ.out];exact ⟨hj,HJ.out.bel.trans hb,hbx _ _ _ HJ.out.box⟩)
            clear hj hb hsz hbx hcd2;go_wp2_with fail;go_roundw;case rel=>exact ⟨k+1,by go_num,by omega,HN⟩
            case measure=>simp [intOf];omega
          · have hlti:¬ (k:Int) < x.args.length:=by omega
            have HE:Hid (x.args.take k=x.args):=Lib.hid (List.take_of_length_le (by omega));have HZ:=HJ.out;rw [HE.out] at HZ;have HY:=Lib.hid HZ;clear HZ;go_wp2_with fail;go_end0;exact ⟨rfl,by rw [HPL.out];exact HY.out.j,HY.out.bel⟩)
      · have HPL:Hid ((partsL x).foldl f s0=s1):=Lib.hid (by rw [HPF.out];unfold moreL;rw [if_neg h2,if_neg h3];rfl);have b2: (x.op == 30)=false:=by simp;omega
        have b3: (x.op == 39)=false:=by simp;omega
        clear h2 h3;go_wp2_with fail;go_end0;exact ⟨rfl,by rw [HPL.out];exact HJ.out.j,HJ.out.bel⟩
end Go.Proofs.YthfldokfnjpkmaaGreatDoor
