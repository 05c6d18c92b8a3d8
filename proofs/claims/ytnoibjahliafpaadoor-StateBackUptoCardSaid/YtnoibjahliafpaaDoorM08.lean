/- All parts of an expression, handed to a function. -/
import Derived.Test.YtnoibjahliafpaaDoorM07
set_option linter.unusedVariables false
set_option linter.unusedSimpArgs false
namespace Go.Proofs.YtnoibjahliafpaaDoor
open Go.ChangeShapes Go.WideShapes Go.ChangeAt Go.RowKit
def Box3 (W W':World):Prop:=∀ (b:Nat) (cs:Array Value) (fr:Nat × Nat),W.heap[b]? =some (.cells cs 144 fr)→W'.heap[b]? =some (.cells cs 144 fr)
structure Doer (B F:Nat) (caps:Array Value) {σ:Type} (f:σ→Int→σ) (J:σ→World→Prop) (ok:σ→Int→Prop):Prop where
 call:∀s W q,J s W→ok s q→Calls Tryd.prog F (#[.int .i64 q] ++ caps) W fun e W'=>e= .returned (.tuple #[])∧J (f s q) W'∧Below B W W'∧W.heap.size≤W'.heap.size∧Box3 W W'
 below:∀s W W',J s W→Below W.heap.size W W'→J s W'
 run:∀args w,(callFunc F args).run Tryd.prog w= .ok (.enter F args) w
theorem fold_take {σ α:Type} {f:σ→α→σ} {l:List α} {k:Nat} {q:α} {s:σ} (h:l[k]? =some q): (l.take (k+1)).foldl f s=f ((l.take k).foldl f s) q:=by
 obtain ⟨hk,rfl⟩:=List.getElem?_eq_some_iff.1 h;rw [List.take_succ_eq_append_getElem hk,List.foldl_append];rfl
theorem abc_cell {W:World} {x:ExprD} {b:Nat} (h:W.heap[b]? =some (.cells #[.int .i64 x.a,.int .i64 x.b,.int .i64 x.c] 144 (0,0))) {k:Nat} (hk:k < 3):∃q,W.cell? ⟨b,k,none⟩=some (.int .i64 q)∧ (abcL x)[k]? =some q:=by
 match k,hk with
 | 0,_=>exact ⟨x.a,(cell_of_row _ _ _ _ _ _ h).trans rfl,rfl⟩
 | 1,_=>exact ⟨x.b,(cell_of_row _ _ _ _ _ _ h).trans rfl,rfl⟩
 | 2,_=>exact ⟨x.c,(cell_of_row _ _ _ _ _ _ h).trans rfl,rfl⟩
theorem split_at {l:List Int} {k:Nat} {q:Int} (h:l[k]? =some q):l=l.take k ++ q :: l.drop (k+1):=by
 obtain ⟨hk,rfl⟩:=List.getElem?_eq_some_iff.1 h;rw [←List.drop_eq_getElem_cons hk,List.take_append_drop]
theorem parts_at {x:ExprD} {k:Nat} {q:Int} (hk:k < partsOf x.op) (h: (abcL x)[k]? =some q):∃l2,partsL x= (abcL x).take k ++ q :: l2:=by
 have h1: ((abcL x).take (partsOf x.op))[k]? =some q:=by rw [List.getElem?_take_of_lt hk];exact h
 have h2:=split_at h1;rw [List.take_take,Nat.min_eq_left (by omega)] at h2;unfold partsL;rw [h2,List.append_assoc];exact ⟨_,rfl⟩
structure PJ (B:Nat) (w0:World) {σ:Type} (J:σ→World→Prop) (x:ExprD) (s:σ) (W:World):Prop where
 j:J s W
 bel:Below B w0 W
 box:W.heap[w0.heap.size]? =some (.cells #[.int .i64 x.a,.int .i64 x.b,.int .i64 x.c] 144 (0,0))
set_option maxHeartbeats 2000000 in
set_option maxRecDepth 100000 in
theorem partsC {B g a F:Nat} {x:ExprD} {caps:Array Value} {σ:Type} {f:σ→Int→σ} {J:σ→World→Prop} {ok:σ→Int→Prop} (D:Doer B F caps f J ok) (pv:Value) (s0:σ) (w:World) (hB:B≤w.heap.size) (hx:exprAt B w g a x) (hg:g < B) (hj:J s0 w) (hok:∀l1 q l2,partsL x=l1 ++ q :: l2→ok (l1.foldl f s0) q):
 Calls Tryd.prog 56 #[pv,.pointer (some ⟨g,a,none⟩),.func (.func F) #[] caps] w fun e w'=>e= .returned (.tuple #[])∧J ((partsL x).foldl f s0) w'∧Below B w w':=by
 have HDo:=Lib.hid D;obtain ⟨o1,p1,o2,p2,o3,p3,hxc,hd1,hd2,hd3⟩:=hx.xc;have HXC:=Lib.hid hxc;have HD:=Lib.hid (And.intro hd1 hd2);have hgw:g < w.heap.size:=by omega
 have HJ0:=Lib.hid hj;have HOK:=Lib.hid hok;have hdn:=hd1.1;have han:=hd2.1;have HS:Hid (∀w',Below w.heap.size w w'→ (Below w.heap.size w w'∧w'.cell? ⟨g,a+2,none⟩=some (.int .i64 x.a)∧w'.cell? ⟨g,a+3,none⟩=some (.int .i64 x.b)∧w'.cell? ⟨g,a+4,none⟩=some (.int .i64 x.c))):=Lib.hid fun w' hb=>
  have h:=HXC.out.below hgw hb
  ⟨hb,h.c2,h.c3,h.c4⟩
 clear hxc hd1 hd2 hd3 hx hj hok D;have h2:=(HS.out _ (Below.refl _ w)).2.1;have h3:=(HS.out _ (Below.refl _ w)).2.2.1;have h4:=(HS.out _ (Below.refl _ w)).2.2.2;go_enter Tryd.func56,Tryd.ntmps56;clear h2 h3 h4;go_wp2_with fail
 go_region_held3 (fun w'=>Below w.heap.size w w'∧w'.cell? ⟨g,a+2,none⟩=some (.int .i64 x.a)∧w'.cell? ⟨g,a+3,none⟩=some (.int .i64 x.b)∧w'.cell? ⟨g,a+4,none⟩=some (.int .i64 x.c))
  (first | assumption | with_reducible exact HS.out _ (Below.refl _ _).drew | with_reducible exact HS.out _ (by assumption) | with_reducible exact HS.out _ (Below.alloc (And.left (by assumption)) (Below.size (And.left (by assumption))) _) | with_reducible exact HS.out _ (Below.drew (Below.alloc (Below.refl _ _) (Nat.le_refl _) _)))
  (fail)
 have HP:Hid (PJ B w J x s0 (w.alloc (Obj.cells #[.int .i64 x.a,.int .i64 x.b,.int .i64 x.c] 144)).drew):=Lib.hid (by
  have hb:Below w.heap.size w (w.alloc (Obj.cells #[.int .i64 x.a,.int .i64 x.b,.int .i64 x.c] 144)).drew:=(ball _).drew;exact ⟨HDo.out.below _ _ _ HJ0.out hb,hb.mono hB,heap_alloc_new _ _⟩)
 generalize (w.alloc (Obj.cells #[.int .i64 x.a,.int .i64 x.b,.int .i64 x.c] 144)).drew=W at HP ⊢;clear HS HJ0;have d0:=(HXC.out.below hg HP.out.bel).c0;go_wp2_with fail;refine (partsOfC x.op W).mono ?_;rintro e w' ⟨rfl,rfl⟩;have hp3:=partsOf_le x.op;clear d0;go_wp2_with fail
 go_loopw [29] (fun iv W=>∃k:Nat,iv= .int .i64 k∧k≤partsOf x.op∧Hid (PJ B w J x (((abcL x).take k).foldl f s0) W)) (fun iv _=>partsOf x.op - (intOf iv).toNat)
 case atStart=>exact ⟨0,rfl,by omega,HP⟩
 case round=>
  obtain ⟨k,rfl,hk,HJ⟩:=hrel;have hk0: (0:Int)≤k:=by omega
  by_cases hlt:k < partsOf x.op
  · have hlti: (k:Int) < partsOf x.op:=by omega
    have hk3: (k:Int) < 3:=by omega
    obtain ⟨q,hq1,hq2⟩:=abc_cell HJ.out.box (k:=k) (by omega);have HQ:=Lib.hid hq2;have HPA:Hid (ok (((abcL x).take k).foldl f s0) q):=Lib.hid (by obtain ⟨l2,h2⟩:=parts_at hlt hq2;exact HOK.out _ _ _ h2);have hrun:=HDo.out.run;clear hq2;go_wp2_with fail;clear hrun;refine (HDo.out.call _ _ _ HJ.out.j (HPA.out)).mono ?_;rintro e W' ⟨rfl,hj,hb,hsz,hbx⟩;have HN:Hid (PJ B w J x (((abcL x).take (k+1)).foldl f s0) W'):=Lib.hid (by
     rw [fold_take HQ.out];exact ⟨hj,HJ.out.bel.trans hb,hbx _ _ _ HJ.out.box⟩)
    clear hj hb hsz hbx hq1;go_wp2_with fail;go_roundw;case rel=>exact ⟨k+1,by go_num,by omega,HN⟩
    case measure=>simp [intOf];omega
  · have hlti:¬ (k:Int) < partsOf x.op:=by omega
    obtain rfl:k=partsOf x.op:=by omega
    obtain ⟨s1,hs1⟩:∃s1,((abcL x).take (partsOf x.op)).foldl f s0=s1:=⟨_,rfl⟩;have HPF:Hid ((partsL x).foldl f s0= (moreL x).foldl f s1):=Lib.hid (by unfold partsL;rw [List.foldl_append,hs1]);have HM0:Hid (∀l1 q l2,moreL x=l1 ++ q :: l2→ok (l1.foldl f s1) q):=Lib.hid fun l1 q l2 hq=>by
     have h5:=HOK.out ((abcL x).take (partsOf x.op) ++ l1) q l2 (by unfold partsL;rw [hq,List.append_assoc]);rw [List.foldl_append,hs1] at h5;exact h5
    rw [hs1] at HJ;have HXN:=Lib.hid (HXC.out.below hg HJ.out.bel);have d0:=HXN.out.c0;clear hs1 hlt hk hk0 hp3;by_cases h2:x.op=2
    · have b1: (x.op == 2)=true:=by simp [h2]
      have d1:=HXN.out.v0;by_cases hr:x.v.scope=2
      · have b2: (x.v.scope == 2)=true:=by simp [hr]
        have HPL:Hid ((partsL x).foldl f s0= ([x.v.who] ++ x.v.dims.map (·.i)).foldl f s1):=Lib.hid (by rw [HPF.out];unfold moreL;rw [if_pos h2,if_pos hr]);have HM1:Hid (ok s1 x.v.who):=Lib.hid (HM0.out [] _ (x.v.dims.map (·.i)) (by unfold moreL;rw [if_pos h2,if_pos hr];rfl));have HM2:Hid (∀l1 q l2,x.v.dims.map (·.i)=l1 ++ q :: l2→ok (l1.foldl f ([x.v.who].foldl f s1)) q):=Lib.hid fun l1 q l2 hq=>HM0.out (x.v.who :: l1) q l2 (by unfold moreL;rw [if_pos h2,if_pos hr,hq];rfl)
        have d2:=HXN.out.v2;have hrun:=HDo.out.run;clear h2 hr;go_wp2_with fail;clear hrun;refine (HDo.out.call _ _ _ HJ.out.j HM1.out).mono ?_;rintro e W' ⟨rfl,hj,hb,hsz,hbx⟩;have HS1:Hid (PJ B w J x ([x.v.who].foldl f s1) W'):=Lib.hid ⟨hj,HJ.out.bel.trans hb,hbx _ _ _ HJ.out.box⟩;clear hj hb hsz hbx d0 d1 d2 HXN;have HXN:=Lib.hid (HXC.out.below hg HS1.out.bel);have e4:=HXN.out.v4;go_wp2_with fail;clear e4
        go_loopw [63] (fun iv W=>∃k:Nat,iv= .int .i64 k∧k≤x.v.dims.length∧Hid (PJ B w J x (((x.v.dims.map (·.i)).take k).foldl f ([x.v.who].foldl f s1)) W)) (fun iv _=>x.v.dims.length - (intOf iv).toNat)
        case atStart=>exact ⟨0,rfl,by omega,HS1⟩
        case round=>
         obtain ⟨k,rfl,hk,HJ⟩:=hrel;have hk0: (0:Int)≤k:=by omega
         by_cases hlt:k < x.v.dims.length
         · have hlti: (k:Int) < x.v.dims.length:=by omega
           obtain ⟨gd,offd,hod,hgd,hcd,-⟩:=(HD.out.1.mono fun _ _ _ hg=>dimAt.below HJ.out.bel hg).cell hlt;obtain ⟨q,hq⟩:∃q,x.v.dims[k].i=q:=⟨_,rfl⟩;rw [hq] at hcd;have HQ:Hid ((x.v.dims.map (·.i))[k]? =some q):=Lib.hid (by rw [List.getElem?_map,List.getElem?_eq_getElem hlt];simp [hq]);have e4:=(HXC.out.below hg HJ.out.bel).v4;rw [hod] at e4;have hrun:=HDo.out.run;clear hod hgd hq;go_wp2_with fail;clear hrun;refine (HDo.out.call _ _ _ HJ.out.j (HM2.out _ _ _ (split_at HQ.out))).mono ?_;rintro e W' ⟨rfl,hj,hb,hsz,hbx⟩;have HN:Hid (PJ B w J x (((x.v.dims.map (·.i)).take (k+1)).foldl f ([x.v.who].foldl f s1)) W'):=Lib.hid (by
            rw [fold_take HQ.out];exact ⟨hj,HJ.out.bel.trans hb,hbx _ _ _ HJ.out.box⟩)
           clear hj hb hsz hbx hcd e4;go_wp2_with fail;go_roundw;case rel=>exact ⟨k+1,by go_num,by omega,HN⟩
           case measure=>simp [intOf];omega
         · have hlti:¬ (k:Int) < x.v.dims.length:=by omega
           have HE:Hid (((x.v.dims.map (·.i)).take k)=x.v.dims.map (·.i)):=Lib.hid (List.take_of_length_le (by rw [List.length_map];omega));have HZ:=HJ.out;rw [HE.out] at HZ;have HY:=Lib.hid HZ;clear HZ;go_wp2_with fail;go_end0;exact ⟨rfl,by rw [HPL.out,List.foldl_append];exact HY.out.j,HY.out.bel⟩
      · have b2: (x.v.scope == 2)=false:=by simp [hr]
        have HPL:Hid ((partsL x).foldl f s0= (([]:List Int) ++ x.v.dims.map (·.i)).foldl f s1):=Lib.hid (by rw [HPF.out];unfold moreL;rw [if_pos h2,if_neg hr]);have HM2:Hid (∀l1 q l2,x.v.dims.map (·.i)=l1 ++ q :: l2→ok (l1.foldl f s1) q):=Lib.hid fun l1 q l2 hq=>HM0.out l1 q l2 (by unfold moreL;rw [if_pos h2,if_neg hr,hq];rfl)
        have HS1:=HJ;clear h2 hr;have e4:=HXN.out.v4;go_wp2_with fail;clear e4
        go_loopw [63] (fun iv W=>∃k:Nat,iv= .int .i64 k∧k≤x.v.dims.length∧Hid (PJ B w J x (((x.v.dims.map (·.i)).take k).foldl f s1) W)) (fun iv _=>x.v.dims.length - (intOf iv).toNat)
        case atStart=>exact ⟨0,rfl,by omega,HS1⟩
        case round=>
         obtain ⟨k,rfl,hk,HJ⟩:=hrel;have hk0: (0:Int)≤k:=by omega
         by_cases hlt:k < x.v.dims.length
         · have hlti: (k:Int) < x.v.dims.length:=by omega
           obtain ⟨gd,offd,hod,hgd,hcd,-⟩:=(HD.out.1.mono fun _ _ _ hg=>dimAt.below HJ.out.bel hg).cell hlt;obtain ⟨q,hq⟩:∃q,x.v.dims[k].i=q:=⟨_,rfl⟩;rw [hq] at hcd;have HQ:Hid ((x.v.dims.map (·.i))[k]? =some q):=Lib.hid (by rw [List.getElem?_map,List.getElem?_eq_getElem hlt];simp [hq]);have e4:=(HXC.out.below hg HJ.out.bel).v4;rw [hod] at e4;have hrun:=HDo.out.run;clear hod hgd hq;go_wp2_with fail;clear hrun;refine (HDo.out.call _ _ _ HJ.out.j (HM2.out _ _ _ (split_at HQ.out))).mono ?_;rintro e W' ⟨rfl,hj,hb,hsz,hbx⟩;have HN:Hid (PJ B w J x (((x.v.dims.map (·.i)).take (k+1)).foldl f s1) W'):=Lib.hid (by
            rw [fold_take HQ.out];exact ⟨hj,HJ.out.bel.trans hb,hbx _ _ _ HJ.out.box⟩)
           clear hj hb hsz hbx hcd e4;go_wp2_with fail;go_roundw;case rel=>exact ⟨k+1,by go_num,by omega,HN⟩
           case measure=>simp [intOf];omega
         · have hlti:¬ (k:Int) < x.v.dims.length:=by omega
           have HE:Hid (((x.v.dims.map (·.i)).take k)=x.v.dims.map (·.i)):=Lib.hid (List.take_of_length_le (by rw [List.length_map];omega));have HZ:=HJ.out;rw [HE.out] at HZ;have HY:=Lib.hid HZ;clear HZ;go_wp2_with fail;go_end0;exact ⟨rfl,by rw [HPL.out,List.foldl_append];exact HY.out.j,HY.out.bel⟩
    · have b1: (x.op == 2)=false:=by simp [h2]
      by_cases h3:x.op=30∨x.op=39
      · have HPL:Hid ((partsL x).foldl f s0=x.args.foldl f s1):=Lib.hid (by rw [HPF.out];unfold moreL;rw [if_neg h2,if_pos h3]);have HM2:Hid (∀l1 q l2,x.args=l1 ++ q :: l2→ok (l1.foldl f s1) q):=Lib.hid fun l1 q l2 hq=>HM0.out l1 q l2 (by unfold moreL;rw [if_neg h2,if_pos h3,hq])
        have e6:=HXN.out.c6;have h34: ((x.op == 30)=true)∨ ((x.op == 30)=false∧ (x.op == 39)=true):=by
         rcases h3 with h | h
         · exact .inl (by simp [h])
         · exact .inr (by simp [h])
        clear h2 h3;rcases h34 with b2 | ⟨b2,b3⟩
        all_goals (
         go_wp2_with fail;clear e6
         go_loopw [86] (fun iv W=>∃k:Nat,iv= .int .i64 k∧k≤x.args.length∧Hid (PJ B w J x ((x.args.take k).foldl f s1) W)) (fun iv _=>x.args.length - (intOf iv).toNat)
         case atStart=>exact ⟨0,rfl,by omega,HJ⟩
         case round=>
          clear HJ;obtain ⟨k,rfl,hk,HJ⟩:=hrel;have hk0: (0:Int)≤k:=by omega
          by_cases hlt:k < x.args.length
          · have hlti: (k:Int) < x.args.length:=by omega
            obtain ⟨gd,offd,hod,hgd,hcd⟩:=(HD.out.2.mono fun _ _ _ hg=>intAt.below HJ.out.bel hg).cell hlt;obtain ⟨q,hq⟩:∃q,x.args[k]=q:=⟨_,rfl⟩;have HQ:Hid (x.args[k]? =some q):=Lib.hid (by rw [List.getElem?_eq_getElem hlt,hq]);have hcd2:wr.cell? ⟨gd,offd+k,none⟩=some (.int .i64 q):=by unfold intAt at hcd;rw [Nat.mul_one,hq] at hcd;exact hcd
            have hrun:=HDo.out.run;subst hod;clear hgd hq hcd;go_wp2_with fail;clear hrun;refine (HDo.out.call _ _ _ HJ.out.j (HM2.out _ _ _ (split_at HQ.out))).mono ?_;rintro e W' ⟨rfl,hj,hb,hsz,hbx⟩;have HN:Hid (PJ B w J x ((x.args.take (k+1)).foldl f s1) W'):=Lib.hid (by
             rw [fold_take HQ.out];exact ⟨hj,HJ.out.bel.trans hb,hbx _ _ _ HJ.out.box⟩)
            clear hj hb hsz hbx hcd2;go_wp2_with fail;go_roundw;case rel=>exact ⟨k+1,by go_num,by omega,HN⟩
            case measure=>simp [intOf];omega
          · have hlti:¬ (k:Int) < x.args.length:=by omega
            have HE:Hid (x.args.take k=x.args):=Lib.hid (List.take_of_length_le (by omega));have HZ:=HJ.out;rw [HE.out] at HZ;have HY:=Lib.hid HZ;clear HZ;go_wp2_with fail;go_end0;exact ⟨rfl,by rw [HPL.out];exact HY.out.j,HY.out.bel⟩)
      · have HPL:Hid ((partsL x).foldl f s0=s1):=Lib.hid (by rw [HPF.out];unfold moreL;rw [if_neg h2,if_neg h3];rfl);have b2: (x.op == 30)=false:=by simp;omega
        have b3: (x.op == 39)=false:=by simp;omega
        clear h2 h3;go_wp2_with fail;go_end0;exact ⟨rfl,by rw [HPL.out];exact HJ.out.j,HJ.out.bel⟩
end Go.Proofs.YtnoibjahliafpaaDoor
