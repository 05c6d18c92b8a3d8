/- What a proctype uses. -/
import Derived.Test.YthfldokfnjpkmaaGreatDoorM05
import Derived.Test.YthfldokfnjpkmaaGreatDoorM09
import Derived.ScopeJumps
import Derived.WalkMore
import Derived.StillTailTactics
import Derived.IntWalk
set_option linter.unusedVariables false
set_option linter.unusedSimpArgs false
namespace Go.Proofs.YthfldokfnjpkmaaGreatDoor
open Go.ChangeShapes Go.WideShapes Go.ChangeAt Go.RowKit
attribute [local go_sem ↓] Go.wp_at_zero Go.wp_at_succ
section
variable {P:Program} {a:Act} {w:World} {Q:Exit→Act→World→Prop}
theorem wp_scope_once {c rest:Code} (l:Nat) (J:Nat→Act→World→Prop) (hf:findLabel c l=some (Code.skip.seq rest))
 (pass:∀m a w,J m a w→rest.wp P (Exit.jump l (fun a' w'=>∃m',m' < m∧J m' a' w') Q) a w)
 (first: (∀m a w,J m a w→rest.wp P (Exit.jump l (fun a w=>∃m,J m a w) Q) a w)→c.wp P (Exit.jump l (fun a w=>∃m,J m a w) Q) a w): (Code.scope c).wp P Q a w:=by
 have weak:∀m a w,J m a w→rest.wp P (Exit.jump l (fun a w=>∃m,J m a w) Q) a w:=by
  intro m a w h;refine Code.wp_mono ?_ (pass m a w h);intro e a w hq;cases e with
  | goto l'=>exact ⟨hq.1,hq.2.elim fun m' h=>⟨m',h.2⟩⟩
  | normal=>exact hq
  | exit _=>exact hq
  | ret=>exact hq
  | panic _=>exact hq
  | outgrown=>exact hq
 intro b k cs;have hg:gotoIn l (.inScope c :: k)=some (.code (Code.skip.seq rest) :: .inScope c :: k):=by simp [gotoIn,hf]
 have key:∀m a w,J m a w→∃e a' w',Q e a' w'∧Arrives P (lone (b.at a (.code (Code.skip.seq rest) :: .inScope c :: k)) cs w) b k cs e a' w':=by
  intro m
  induction m using Nat.strongRecOn with
  | _ m ih=>
    intro a w hJ;obtain ⟨e,a₁,w₁,hq,harr⟩:=(wp_seq (wp_skip (pass m a w hJ)): (Code.skip.seq rest).wp P _ a w) b (.inScope c :: k) cs;cases e with
    | normal=>exact ⟨.normal,a₁,w₁,hq,Steps.trans harr (.one step_inScope)⟩
    | exit id=>exact ⟨.exit id,a₁,w₁,hq,fun k' hk=>harr k' (by simp [exitTo,hk])⟩
    | goto l'=>
      obtain ⟨rfl,m',hlt,hJ'⟩:=hq;obtain ⟨e₂,a₂,w₂,hq₂,harr₂⟩:=ih m' hlt a₁ w₁ hJ';exact ⟨e₂,a₂,w₂,hq₂,.of_steps (harr _ hg) harr₂⟩
    | ret=>exact ⟨_,a₁,w₁,hq,harr⟩
    | panic ch=>exact ⟨_,a₁,w₁,hq,harr⟩
    | outgrown=>exact ⟨_,a₁,w₁,hq,harr⟩
 obtain ⟨e,a₁,w₁,hq,harr⟩:=first weak b (.inScope c :: k) cs;cases e with
 | normal=>exact ⟨.normal,a₁,w₁,hq,.head step_scope (Steps.trans harr (.one step_inScope))⟩
 | exit id=>exact ⟨.exit id,a₁,w₁,hq,fun k' hk=> .head step_scope (harr k' (by simp [exitTo,hk]))⟩
 | goto l'=>
   obtain ⟨rfl,m,hJ'⟩:=hq;obtain ⟨e₂,a₂,w₂,hq₂,harr₂⟩:=key m a₁ w₁ hJ';exact ⟨e₂,a₂,w₂,hq₂,.of_steps (.head step_scope (harr _ hg)) harr₂⟩
 | ret=>exact ⟨_,a₁,w₁,hq,.of_steps (.one step_scope) harr⟩
 | panic ch=>exact ⟨_,a₁,w₁,hq,.of_steps (.one step_scope) harr⟩
 | outgrown=>exact ⟨_,a₁,w₁,hq,.of_steps (.one step_scope) harr⟩
end
def usF (p bx:Nat) (proc top:Int) (X:Nat→Value):Act:={ tmps:=#[.pointer (some ⟨p,0,none⟩),.int .i64 proc,.int .i64 top,.pointer (some ⟨bx,0,none⟩),X 4,X 5,.bool false,X 7,X 8,X 9,X 10,X 11,X 12,X 13,X 14,X 15,X 16,X 17,X 18,X 19,X 20,X 21,X 22,X 23,X 24,X 25,X 26,X 27,X 28,X 29,X 30,X 31,X 32,X 33,X 34,X 35,X 36,X 37,X 38,X 39,X 40,X 41,X 42,X 43,X 44,X 45,X 46,X 47,X 48,X 49,X 50,X 51,X 52,X 53,X 54,X 55,X 56,X 57,X 58,X 59,X 60,X 61,X 62,X 63,X 64,X 65,X 66,X 67,X 68,X 69,X 70,X 71,X 72,X 73,X 74,X 75,X 76,X 77,X 78,X 79,X 80,X 81,X 82,X 83,X 84,X 85,X 86,X 87,X 88,X 89,X 90,X 91,X 92,X 93,X 94,X 95,X 96,X 97,X 98,X 99,X 100,X 101,X 102,X 103,X 104,X 105],defers:=[] }
theorem usF_of {p bx:Nat} {proc top:Int} (t:Array Value) (h:t= (usF p bx proc top (fun i=>t.getD i undef)).tmps):∃X,({ tmps:=t,defers:=[] }:Act)=usF p bx proc top X:=
 ⟨fun i=>t.getD i undef,by rw [show usF p bx proc top (fun i=>t.getD i undef)= { tmps:=(usF p bx proc top (fun i=>t.getD i undef)).tmps,defers:=[] } from rfl,←h]⟩
structure UL (B p sb bx:Nat) (h:MH) (m:ModelD) (proc:Nat) (r:Bool × List Int) (w0:World) (f:Nat) (seen left:List Int) (W:World):Prop where
 run:usesF m proc f seen left=r
 lt:toGo m proc seen+left.length < f
 f7:f≤70000
 mem:∀q ∈ left,0≤q∧q < m.exprs.length
 pk:PK B p sb bx h m seen w0 left W
def UsesP (B p sb:Nat) (h:MH) (m:ModelD) (r:Bool × List Int) (w0:World) (e:Ending) (w':World):Prop:=e= .returned (.bool r.1)∧ (∃left,UJ B p sb h m r.2 left w')∧Gn B w0 w'
set_option maxHeartbeats 8000000 in
set_option maxRecDepth 100000 in
theorem usesC {B p sb:Nat} {h:MH} {m:ModelD} {seen left:List Int} (proc top:Nat) (w:World) (hj:UJ B p sb h m seen left w) (hx:EX m) (hproc:proc < m.procs.length) (htop:top < m.exprs.length):
 Calls Tryz.prog 178 #[.pointer (some ⟨p,0,none⟩),.int .i64 proc,.int .i64 top] w (UsesP B p sb h m (usesL m proc seen top) w):=by
 obtain ⟨lv,k⟩:=hj;obtain ⟨i0,hi,hz0,hz1,hz2⟩:=info_parts info_int;have HI:=Lib.hid (And.intro hi (And.intro hz0 (And.intro hz1 hz2)));have HK:=Lib.hid k;have HEX:=Lib.hid hx;have hplt:p < w.heap.size:=k.lt;have hB:B≤w.heap.size:=k.leW;have HB0:=Lib.hid (Bx.new w #[.pointer (some ⟨p,0,none⟩)] 253);have HKW:=Lib.hid (k.below HB0.out.bel);have l2:=HKW.out.c8;have f2:=HKW.out.f8;obtain ⟨r,hr⟩:∃r,usesL m proc seen top=r:=⟨_,rfl⟩;have HR:=Lib.hid hr;rw [hr];have l1: (w.alloc (Obj.cells #[.pointer (some ⟨p,0,none⟩)] 253)).cell? ⟨w.heap.size,0,none⟩=some (.pointer (some ⟨p,0,none⟩)):=HB0.out.cell rfl;have HU0:Hid (∀W,Pushed B p sb h m seen ([] ++ [(top:Int)]) (w.alloc (Obj.cells #[.pointer (some ⟨p,0,none⟩)] 253)) W→UL B p sb w.heap.size h m proc r w 70000 seen [(top:Int)] W):=Lib.hid fun W hk=>by
  refine ⟨HR.out, ?_,by omega,fun q hq=> ?_,⟨hk.1,hk.2.oth _ _ _ _ (by decide) (by decide) HB0.out.box,(Gn.of HB0.out.bel hB).trans hk.2⟩⟩
  · have h1:=toGo_le m proc seen;have h2:=HEX.out.sum;simp only [List.length_singleton];omega
  · rw [List.mem_singleton.1 hq];omega
 clear hi hz0 hz1 hz2 k hr hx;have HLV:=Lib.hid HK.out.form;rcases HLV.out with ⟨hlv,hl0⟩ | ⟨g0,cap0,hlv,hcap0⟩
 · rw [hlv] at l2;go_enter Tryz.func178,Tryz.ntmps178;go_wp2_with fail;generalize w.alloc (Obj.cells #[.pointer (some ⟨p,0,none⟩)] 253)=W0 at HB0 HKW HU0 l1 l2 f2 ⊢;have hp0:p < W0.heap.size:=HKW.out.lt;have hb0:w.heap.size < W0.heap.size:=lt_of_block HB0.out.box;refine wp_scope_once 0 (fun mm a' W=>∃ (seen' left':List Int),Hid (UL B p sb w.heap.size h m proc r w mm seen' left' W)∧∃X,a'=usF p w.heap.size proc top X) rfl ?_ ?_
   · rintro mm a' W ⟨sn,lf,HUL,X,rfl⟩;unfold usF;obtain ⟨lv1,k1⟩:=HUL.out.pk.uj;have HK1:=Lib.hid k1;have m1:W.cell? ⟨w.heap.size,0,none⟩=some (.pointer (some ⟨p,0,none⟩)):=(cell_of_row _ _ _ _ _ _ HUL.out.pk.box).trans rfl;have m2:=k1.c8;have HFM:=Lib.hid k1.form;obtain ⟨f,hf⟩:∃f,mm=f+1:=⟨mm - 1,by have:=HUL.out.lt;omega⟩;subst hf;clear k1;rcases List.eq_nil_or_concat lf with hlf | ⟨l,q0,hlf⟩
     · subst hlf;have HZ:Hid (UsesP B p sb h m r w (.returned (.bool true)) W):=Lib.hid (by
        have:=HUL.out.run;rw [usesF_nil] at this;rw [←this];exact ⟨rfl,⟨[],HUL.out.pk.uj⟩,HUL.out.pk.gn⟩)
       obtain ⟨o1,c1,hform⟩:∃o1 c1,lv1= .slice o1 0 c1:=by
        rcases HFM.out with ⟨h1,_⟩ | ⟨g,c,h1,_⟩
        · exact ⟨_,_,h1⟩
        · exact ⟨_,_,h1⟩
       rw [hform] at m2;clear hform;go_wp2_with fail;simp only [Exit.jump];go_ret;exact HZ.out
     · rw [List.concat_eq_append] at hlf;subst hlf;have hq0:=HUL.out.mem q0 (by simp);obtain ⟨q,rfl⟩:∃q:Nat,q0=q:=⟨q0.toNat,by omega⟩;have hq:q < m.exprs.length:=by omega
       have hqi: (q:Int) < m.exprs.length:=by omega
       have hqz: (0:Int)≤q:=by omega
       obtain ⟨g1,c1,hform,hcap⟩:∃g1 c1,lv1= .slice (some ⟨g1,0,none⟩) (l.length+1) c1∧l.length+1≤c1:=by
        rcases HFM.out with ⟨_,h1⟩ | ⟨g,c,h1,h2⟩
        · simp at h1
        · rw [List.length_append] at h1 h2;exact ⟨g,c,h1,h2⟩
       subst hform;have m3:W.cell? ⟨g1,l.length,none⟩=some (.int .i64 q):=by
        have:=HK1.out.row;rw [List.length_append] at this;refine (World.ownsRow.cellAt this l.length (by simp)).trans ?_;unfold leftV;simp
       have hll:l.length+1 < f+1:=by
        have h1:=HUL.out.lt;rw [List.length_append] at h1;simp only [List.length_singleton] at h1;omega
       have hf7:=HUL.out.f7;have hl0: ((l.length:Int)+1 == 0)=false:=by rw [beq_eq_false_iff_ne];omega
       have hw1:IntKind.i64.wrap ((l.length:Int)+1 - 1)=l.length:=by rw [IntWalk.i64_in _ (by omega)];omega
       have hw2:IntKind.i64.wrap (l.length:Int)=l.length:=IntWalk.i64_in _ (by omega);have hl1: (0:Int)≤l.length:=by omega
       have hl2: (l.length:Int)≤c1:=by omega
       have hl3: (0:Int)≤c1:=by omega
       clear hq0;go_wp2_with fail;go_quiet (fail);have HW1:=Lib.hid (HK1.out.below (bdrew (Below.refl _ _) nq));have HG1:=Lib.hid (HUL.out.pk.gn.trans (Gn.of (bdrew (Below.refl W.heap.size W) nq) HK1.out.leW));have HX1:Hid ((W.drewN nq).heap[w.heap.size]? =some (.cells #[.pointer (some ⟨p,0,none⟩)] 253 (0,0))):=Lib.hid HUL.out.pk.box;generalize W.drewN nq=W1 at HW1 HG1 HX1 ⊢;clear m1 m2 m3;have m1:W1.cell? ⟨w.heap.size,0,none⟩=some (.pointer (some ⟨p,0,none⟩)):=(cell_of_row _ _ _ _ _ _ HX1.out).trans rfl;have m2:=HW1.out.c8;have m4:=HW1.out.f8;go_wp2_with fail;go_still_tail 12,(by kernel_rfl);change wpList _ _ _ _ _ W1.drew;have HW2:=Lib.hid (HW1.out.below (Below.refl _ _).drew);have HG2:=Lib.hid (HG1.out.trans (Gn.of ((Below.refl W1.heap.size W1).drew) HW1.out.leW));have HX2:Hid (W1.drew.heap[w.heap.size]? =some (.cells #[.pointer (some ⟨p,0,none⟩)] 253 (0,0))):=Lib.hid HX1.out;generalize W1.drew=W2 at HW2 HG2 HX2 ⊢;clear m1 m2 m4;have m1:W2.cell? ⟨w.heap.size,0,none⟩=some (.pointer (some ⟨p,0,none⟩)):=(cell_of_row _ _ _ _ _ _ HX2.out).trans rfl;have m2:=HW2.out.c8;have m4:=HW2.out.f8;go_upto_region 6 with (fail)
       clear m1 m2 m4;have hput:=HW2.out.put (v:= .slice none 0 0) (W2:=W2) (lv2:= .slice (some ⟨g1,0,none⟩) l.length c1) (left2:=l) (World.grownBy.refl W2 _) (.inl rfl) (own_pop (by have:=HW2.out.row;rw [List.length_append] at this ⊢;exact this)) (fun e=>HW2.out.ne e);have HW3:=Lib.hid hput.1;have HG3:=Lib.hid (HG2.out.trans hput.2);have HX3:=Lib.hid (hput.2.oth _ _ _ _ (by decide) (by decide) HX2.out);clear hput;generalize W2.setCell ⟨p,8,none⟩ (.slice (some ⟨g1,0,none⟩) l.length c1)=W3 at HW3 HG3 HX3 ⊢;obtain ⟨v,hv⟩:∃v,sn[q]? =some v:=⟨_,List.getElem?_eq_getElem (by have:=HW3.out.len;omega)⟩;have m1:W3.cell? ⟨w.heap.size,0,none⟩=some (.pointer (some ⟨p,0,none⟩)):=(cell_of_row _ _ _ _ _ _ HX3.out).trans rfl;have m2:=HW3.out.c7;have m3:=HW3.out.seenAt hv;have m4:=HW3.out.seenF q;have hpl:m.procs.length≤140737488355328:=HW3.out.md.procs.1;have hV:=Lib.hid hv;clear hv;have hw3:IntKind.i64.wrap ((proc:Int)+1)= (proc:Int)+1:=IntWalk.i64_in _ (by omega);by_cases hseen:v= (proc:Int)+1
       · have hsb: (v == (proc:Int)+1)=true:=by rw [beq_iff_eq];exact hseen
         have HUL2:Hid (UL B p sb w.heap.size h m proc r w f sn l W3):=Lib.hid ⟨by rw [←HUL.out.run,usesF_seen (by rw [hV.out,hseen])],by have:=HUL.out.lt;rw [List.length_append] at this;simp only [List.length_singleton] at this;omega,by omega,fun q' hq'=>HUL.out.mem q' (List.mem_append_left _ hq'),⟨⟨_,HW3.out⟩,HX3.out,HG3.out⟩⟩;clear hseen;go_wp2_with fail;go_step3;exact ⟨rfl,f,by omega,_,_,HUL2,usF_of _ rfl⟩
       · have hsb: (v == (proc:Int)+1)=false:=by rw [beq_eq_false_iff_ne];exact hseen
         have HNS:Hid (sn[q]? ≠some ((proc:Int)+1)):=Lib.hid (by rw [hV.out];intro e;injection e with e;exact hseen e);have HNE:=Lib.hid hseen;clear hseen;go_upto_region 8 with (fail)
         clear m1 m2 m3 m4;have hsee:=HW3.out.see q ((proc:Int)+1);have HW4:=Lib.hid hsee.1;have HG4:=Lib.hid (HG3.out.trans hsee.2);have HX4:=Lib.hid (hsee.2.oth _ _ _ _ (by decide) (by decide) HX3.out);clear hsee;generalize W3.setCell ⟨sb,q,none⟩ (.int .i64 ((proc:Int)+1))=W4 at HW4 HG4 HX4 ⊢;obtain ⟨x,hget⟩:∃x,m.exprs[q]? =some x:=⟨_,List.getElem?_eq_getElem hq⟩;obtain ⟨g2,off2,ho,hg2,hex⟩:=HW4.out.md.exprs.get hget;have HXO:=Lib.hid (HEX.out.ok q x hget);have HGET:=Lib.hid hget;obtain ⟨a2,ha2⟩:∃a2,off2+q*12=a2:=⟨_,rfl⟩;rw [ha2] at hex;obtain ⟨o1,p1,o2,p2,o3,p3,hxc,hd1,hd2,hd3⟩:=hex.xc;have HE:=Lib.hid hex;have HXC:=Lib.hid hxc;have HD1:=Lib.hid hd1;have HNO:Hid (useB m proc x=false→∀W',UJ B p sb h m (sn.set q ((proc:Int)+1)) l W'→Gn B w W'→UsesP B p sb h m r w (.returned (.bool false)) W'):=Lib.hid fun hu W' hj hg=>by
          have:=HUL.out.run;rw [usesF_no HNS.out HGET.out hu] at this;rw [←this];exact ⟨rfl,⟨_,hj⟩,hg⟩
         have HTG:Hid (toGo m proc (sn.set q ((proc:Int)+1))+ (partsL x).length=toGo m proc sn):=Lib.hid (toGo_set HGET.out hV.out HNE.out);have HDONE:Hid (∀W',useB m proc x=true→PK B p sb w.heap.size h m (sn.set q ((proc:Int)+1)) w ((partsL x).foldl (fun l q=>l ++ [q]) l) W'→UL B p sb w.heap.size h m proc r w f (sn.set q ((proc:Int)+1)) (l ++ partsL x) W'):=Lib.hid fun W' hu hpk=>by
          rw [fold_push] at hpk;refine ⟨by rw [←HUL.out.run,usesF_yes HNS.out HGET.out hu], ?_,by omega,fun q' hq'=> ?_,hpk⟩
          · have h1:=HUL.out.lt;have h2:=HTG.out;rw [List.length_append] at h1 ⊢;simp only [List.length_singleton] at h1;omega
          · rcases List.mem_append.1 hq' with hq' | hq'
            · exact HUL.out.mem q' (List.mem_append_left _ hq')
            · have:=HXO.out.2 q' hq';omega
         have HOK:Hid (∀l1 (q':Int) l2,partsL x=l1 ++ q' :: l2→ (l1.foldl (fun l q=>l ++ [q]) l).length≤100000):=Lib.hid fun l1 q' l2 e=>by
          rw [fold_push,List.length_append];have h1:=HUL.out.lt;have h2:=HTG.out;rw [e] at h2;rw [List.length_append] at h1 h2;simp only [List.length_singleton,List.length_cons] at h1 h2;omega
         have HIN:Hid ((off2:Nat)+q*12=a2):=Lib.hid ha2;have n1:W4.cell? ⟨w.heap.size,0,none⟩=some (.pointer (some ⟨p,0,none⟩)):=(cell_of_row _ _ _ _ _ _ HX4.out).trans rfl;have n2:W4.cell? ⟨p,6,none⟩=some (.slice (some ⟨g2,off2,none⟩) m.exprs.length h.ec):=by rw [←ho];exact HW4.out.ck.c6
         have n3:W4.cell? ⟨p,5,none⟩=some (.int .i64 m.claim):=HW4.out.ck.c5;have c0:=hxc.c0;clear hex hxc hd1 hd2 hd3 hget ho;rw [←ha2] at c0;clear ha2;go_upto_region 10 with (fail)
         rw [HIN.out];clear n2 c0;have hpr: (proc:Int) < m.procs.length:=by omega
         by_cases p39:x.op=39
         · have b39: (x.op == 39)=true:=by rw [p39];rfl
           have HZ:=Lib.hid (HNO.out (by unfold useB;rw [if_pos p39]) W4 ⟨_,HW4.out⟩ HG4.out);clear p39;go_wp2_with fail;simp only [Exit.jump];go_ret;exact HZ.out
         · have b39: (x.op == 39)=false:=by rw [beq_eq_false_iff_ne];exact p39
           by_cases p31:x.op=31
           · have b31: (x.op == 31)=true:=by rw [p31];rfl
             have HUV:Hid (useB m proc x=decide ((proc:Int)≠m.claim)):=Lib.hid (by unfold useB;rw [if_neg p39,if_pos p31]);clear p39 p31;by_cases hcl: (proc:Int)=m.claim
             · have hcb: ((proc:Int) == m.claim)=true:=by rw [beq_iff_eq];exact hcl
               have HZ:=Lib.hid (HNO.out (by rw [HUV.out];exact decide_eq_false (fun h=>h hcl)) W4 ⟨_,HW4.out⟩ HG4.out);clear hcl;go_wp2_with fail;simp only [Exit.jump];go_ret;exact HZ.out
             · have hcb: ((proc:Int) == m.claim)=false:=by rw [beq_eq_false_iff_ne];exact hcl
               have HU:Hid (useB m proc x=true):=Lib.hid (by rw [HUV.out];exact decide_eq_true hcl);clear hcl;have HPJ:Hid (PK B p sb w.heap.size h m (sn.set q ((proc:Int)+1)) w l W4):=Lib.hid ⟨⟨_,HW4.out⟩,HX4.out,HG4.out⟩;have HXE:Hid (exprAt B W4 g2 a2 x):=Lib.hid HE.out;have hBW:B≤W4.heap.size:=HW4.out.leW;have hrun:=run_uses1;go_wp2_with fail;clear hrun;refine (partsC (doer2 B p sb w.heap.size h m (sn.set q ((proc:Int)+1)) w) _ l W4 hBW HXE.out hg2 HPJ.out (fun l1 q' l2 e=>HOK.out l1 q' l2 e)).mono ?_;rintro e W9 ⟨rfl,hpk,hbe⟩;have HUL2:=Lib.hid (HDONE.out _ HU.out hpk);clear hpk hbe;go_wp2_with fail;go_step3;refine ⟨rfl,f,by omega,_,_,HUL2,usF_of _ rfl⟩
           · have b31: (x.op == 31)=false:=by rw [beq_eq_false_iff_ne];exact p31
             by_cases p2:x.op=2
             · have b2: (x.op == 2)=true:=by rw [p2];rfl
               have HUV:Hid (useB m proc x=liesB m proc x.v):=Lib.hid (by unfold useB;rw [if_neg p39,if_neg p31,if_pos p2]);have HTY:Hid (x.v.scope=2→ptypeB m x.v.type=true):=Lib.hid fun hs=>by
                have h1:=HXO.out.1;unfold exprB kindB at h1;rw [if_neg (by omega),if_pos p2] at h1;simp only [Bool.and_eq_true] at h1;have h2:=h1.2;unfold varB varTailB at h2;rw [if_pos hs] at h2;simp only [Bool.and_eq_true] at h2;exact h2.2
               clear p39 p31 p2;have v0:=HXC.out.v0;have v1:=HXC.out.v1;have v2:=HXC.out.v2;have v3:=HXC.out.v3;have v4:=HXC.out.v4;go_wp2_with fail;go_still_tail 6,(by kernel_rfl);change wpList _ _ _ _ _ W4.drew;clear v0 v1 v2 v3 v4 n1 n3;have HW5:=Lib.hid (HW4.out.below (Below.refl _ _).drew);have HG5:=Lib.hid (HG4.out.trans (Gn.of ((Below.refl W4.heap.size W4).drew) HW4.out.leW));have HX5:Hid (W4.drew.heap[w.heap.size]? =some (.cells #[.pointer (some ⟨p,0,none⟩)] 253 (0,0))):=Lib.hid HX4.out;have HE5:Hid (exprAt B W4.drew g2 a2 x):=Lib.hid (HE.out.below ((Below.refl _ _).drew) hg2);have HD5:Hid (Row B o1 3 (dimAt W4.drew) x.v.dims):=Lib.hid (HD1.out.mono fun _ _ _ hg=>dimAt.below ((Below.refl _ _).drew) hg);generalize W4.drew=W5 at HW5 HG5 HX5 HE5 HD5 ⊢;go_wp2_with fail;refine (liesC proc x.v o1 p1 W5 HW5.out.ck HD5.out hproc HTY.out).mono ?_;rintro e W6 ⟨rfl,hb6⟩;have HW6:=Lib.hid (HW5.out.below hb6);have HG6:=Lib.hid (HG5.out.trans (Gn.of hb6 HW5.out.leW));have HX6:=Lib.hid ((hb6.block _ (lt_of_block HX5.out)).trans HX5.out);have HE6:Hid (exprAt B W6 g2 a2 x):=Lib.hid (HE5.out.below (hb6.mono HW5.out.leW) hg2);clear hb6;obtain ⟨u,hu⟩:∃u,liesB m proc x.v=u:=⟨_,rfl⟩;rw [hu];have HU6:=Lib.hid hu;clear hu;cases u
               · have HZ:=Lib.hid (HNO.out (by rw [HUV.out,HU6.out]) W6 ⟨_,HW6.out⟩ HG6.out);go_wp2_with fail;simp only [Exit.jump];go_ret;exact HZ.out
               · have HU:Hid (useB m proc x=true):=Lib.hid (by rw [HUV.out,HU6.out]);have n1:W6.cell? ⟨w.heap.size,0,none⟩=some (.pointer (some ⟨p,0,none⟩)):=(cell_of_row _ _ _ _ _ _ HX6.out).trans rfl;have HPJ:Hid (PK B p sb w.heap.size h m (sn.set q ((proc:Int)+1)) w l W6):=Lib.hid ⟨⟨_,HW6.out⟩,HX6.out,HG6.out⟩;have HXE:Hid (exprAt B W6 g2 a2 x):=Lib.hid HE6.out;have hBW:B≤W6.heap.size:=HW6.out.leW;have hrun:=run_uses1;go_wp2_with fail;clear hrun;refine (partsC (doer2 B p sb w.heap.size h m (sn.set q ((proc:Int)+1)) w) _ l W6 hBW HXE.out hg2 HPJ.out (fun l1 q' l2 e=>HOK.out l1 q' l2 e)).mono ?_;rintro e W9 ⟨rfl,hpk,hbe⟩;have HUL2:=Lib.hid (HDONE.out _ HU.out hpk);clear hpk hbe;go_wp2_with fail;go_step3;refine ⟨rfl,f,by omega,_,_,HUL2,usF_of _ rfl⟩
             · have b2: (x.op == 2)=false:=by rw [beq_eq_false_iff_ne];exact p2
               have HU:Hid (useB m proc x=true):=Lib.hid (by unfold useB;rw [if_neg p39,if_neg p31,if_neg p2]);clear p39 p31 p2;have HPJ:Hid (PK B p sb w.heap.size h m (sn.set q ((proc:Int)+1)) w l W4):=Lib.hid ⟨⟨_,HW4.out⟩,HX4.out,HG4.out⟩;have HXE:Hid (exprAt B W4 g2 a2 x):=Lib.hid HE.out;have hBW:B≤W4.heap.size:=HW4.out.leW;have hrun:=run_uses1;go_wp2_with fail;clear hrun;refine (partsC (doer2 B p sb w.heap.size h m (sn.set q ((proc:Int)+1)) w) _ l W4 hBW HXE.out hg2 HPJ.out (fun l1 q' l2 e=>HOK.out l1 q' l2 e)).mono ?_;rintro e W9 ⟨rfl,hpk,hbe⟩;have HUL2:=Lib.hid (HDONE.out _ HU.out hpk);clear hpk hbe;go_wp2_with fail;go_step3;refine ⟨rfl,f,by omega,_,_,HUL2,usF_of _ rfl⟩
   intro hpass;have HPASS:=Lib.hid hpass;clear hpass;go_wp2_with fail
   go_region_law
    (refine step_append_lies _ rfl (.tmp 14) (.tmp 16) 25 rfl B 3 i0 (.int .i64 0) 1 8 Tryz.underlying25 HI.out.1 HI.out.2.1 HI.out.2.2.1 HI.out.2.2.2 rfl (by decide) (.slice none 0 0) 0 [] (by simp [Act.eval,Act.put]) (World.ownsRow_nil _ _ _ _) ⟨W0.heap.size,0,none⟩ 1 1 (leftV [(top:Int)]) (by simp [Act.eval,Act.put]) rfl (news_one (heap_alloc_new _ _)) (one_left top) (by decide) (by unfold maxLen;omega) (by omega) (Nat.le_trans HKW.out.leW (ball _).drew.size) _ rfl ?_;intro g cap w2 hown hgrow hat hlt;have HP2:=Lib.hid (push_put (left0:=[]) (q:=top) HKW.out ((ball _).drew) (.inl rfl) hgrow hown rfl hat);have HB:Hid (w2.heap[w.heap.size]? =some (.cells #[.pointer (some ⟨p,0,none⟩)] 253 (0,0))):=Lib.hid ((hgrow.block _ (Nat.lt_of_lt_of_le (lt_of_block HB0.out.box) (ball _).drew.size) (by simp [Value.ownBlock])).trans (((ball _).drew.block _ (lt_of_block HB0.out.box)).trans HB0.out.box));have HC:Hid (∃cs,w2.heap[p]? =some (.cells cs 234 (0,0))∧cs[8]? =some lv):=Lib.hid ⟨_,(hgrow.block p (Nat.lt_of_lt_of_le HKW.out.lt (ball _).drew.size) (by simp [Value.ownBlock])).trans (((ball _).drew.block _ HKW.out.lt).trans HKW.out.kp),rfl⟩;obtain ⟨cs,hc1,hc2⟩:=HC.out;have k1:w2.cell? ⟨w.heap.size,0,none⟩=some (.pointer (some ⟨p,0,none⟩)):=(cell_of_row _ _ _ _ _ _ HB.out).trans rfl;have k2:w2.cell? ⟨p,8,none⟩=some lv:=(cell_of_row _ _ _ _ _ _ hc1).trans hc2;have k3:w2.frozen? ⟨p,8,none⟩=false:=frozen_of_row _ _ _ _ _ hc1;clear hown hgrow hat hc1 hc2;simp only [Act.put,List.setIfInBounds_toArray,List.set_cons_zero,List.set_cons_succ])
   all_goals (
    clear k1 k2 k3 l1 l2 f2;go_wp2_with fail;go_step3;refine (by assumption:∀ (a:Act) (w:World),Code.wp Tryz.prog _ _ a w→ (_:Act→World→Prop) a w) _ _ ?_;refine HPASS.out 70000 _ _ ?_;exact ⟨seen,[(top:Int)],Lib.hid (HU0.out _ HP2.out),usF_of _ rfl⟩)
 · rw [hlv] at l2;go_enter Tryz.func178,Tryz.ntmps178;go_wp2_with fail;generalize w.alloc (Obj.cells #[.pointer (some ⟨p,0,none⟩)] 253)=W0 at HB0 HKW HU0 l1 l2 f2 ⊢;have hp0:p < W0.heap.size:=HKW.out.lt;have hb0:w.heap.size < W0.heap.size:=lt_of_block HB0.out.box;have HOWN:Hid (∀W1,Below W0.heap.size W0 W1→W1.ownsRow B 3 1 (.slice (some ⟨g0,0,none⟩) 0 cap0) 0 []):=Lib.hid fun W1 hb=>by
    have:=owns_below HKW.out.row hb;rw [hlv] at this;exact own_none this
   have HFW:Hid (∀b cs fr,∀T,3≠T→W0.heap[b]? =some (.cells cs T fr)→some b≠ (Value.slice (some ⟨g0,0,none⟩) 0 cap0).ownBlock):=Lib.hid fun b cs fr T hT hb=>by
    have:=(owns_neObj HKW.out.row hb hT).symm;rw [hlv] at this;exact this
   have HVL:Hid ((Value.slice (some ⟨g0,0,none⟩) 0 cap0).ownBlock=none∨ (Value.slice (some ⟨g0,0,none⟩) 0 cap0).ownBlock=lv.ownBlock):=Lib.hid (.inr (by rw [hlv];rfl));refine wp_scope_once 0 (fun mm a' W=>∃ (seen' left':List Int),Hid (UL B p sb w.heap.size h m proc r w mm seen' left' W)∧∃X,a'=usF p w.heap.size proc top X) rfl ?_ ?_
   · rintro mm a' W ⟨sn,lf,HUL,X,rfl⟩;unfold usF;obtain ⟨lv1,k1⟩:=HUL.out.pk.uj;have HK1:=Lib.hid k1;have m1:W.cell? ⟨w.heap.size,0,none⟩=some (.pointer (some ⟨p,0,none⟩)):=(cell_of_row _ _ _ _ _ _ HUL.out.pk.box).trans rfl;have m2:=k1.c8;have HFM:=Lib.hid k1.form;obtain ⟨f,hf⟩:∃f,mm=f+1:=⟨mm - 1,by have:=HUL.out.lt;omega⟩;subst hf;clear k1;rcases List.eq_nil_or_concat lf with hlf | ⟨l,q0,hlf⟩
     · subst hlf;have HZ:Hid (UsesP B p sb h m r w (.returned (.bool true)) W):=Lib.hid (by
        have:=HUL.out.run;rw [usesF_nil] at this;rw [←this];exact ⟨rfl,⟨[],HUL.out.pk.uj⟩,HUL.out.pk.gn⟩)
       obtain ⟨o1,c1,hform⟩:∃o1 c1,lv1= .slice o1 0 c1:=by
        rcases HFM.out with ⟨h1,_⟩ | ⟨g,c,h1,_⟩
        · exact ⟨_,_,h1⟩
        · exact ⟨_,_,h1⟩
       rw [hform] at m2;clear hform;go_wp2_with fail;simp only [Exit.jump];go_ret;exact HZ.out
     · rw [List.concat_eq_append] at hlf;subst hlf;have hq0:=HUL.out.mem q0 (by simp);obtain ⟨q,rfl⟩:∃q:Nat,q0=q:=⟨q0.toNat,by omega⟩;have hq:q < m.exprs.length:=by omega
       have hqi: (q:Int) < m.exprs.length:=by omega
       have hqz: (0:Int)≤q:=by omega
       obtain ⟨g1,c1,hform,hcap⟩:∃g1 c1,lv1= .slice (some ⟨g1,0,none⟩) (l.length+1) c1∧l.length+1≤c1:=by
        rcases HFM.out with ⟨_,h1⟩ | ⟨g,c,h1,h2⟩
        · simp at h1
        · rw [List.length_append] at h1 h2;exact ⟨g,c,h1,h2⟩
       subst hform;have m3:W.cell? ⟨g1,l.length,none⟩=some (.int .i64 q):=by
        have:=HK1.out.row;rw [List.length_append] at this;refine (World.ownsRow.cellAt this l.length (by simp)).trans ?_;unfold leftV;simp
       have hll:l.length+1 < f+1:=by
        have h1:=HUL.out.lt;rw [List.length_append] at h1;simp only [List.length_singleton] at h1;omega
       have hf7:=HUL.out.f7;have hl0: ((l.length:Int)+1 == 0)=false:=by rw [beq_eq_false_iff_ne];omega
       have hw1:IntKind.i64.wrap ((l.length:Int)+1 - 1)=l.length:=by rw [IntWalk.i64_in _ (by omega)];omega
       have hw2:IntKind.i64.wrap (l.length:Int)=l.length:=IntWalk.i64_in _ (by omega);have hl1: (0:Int)≤l.length:=by omega
       have hl2: (l.length:Int)≤c1:=by omega
       have hl3: (0:Int)≤c1:=by omega
       clear hq0;go_wp2_with fail;go_quiet (fail);have HW1:=Lib.hid (HK1.out.below (bdrew (Below.refl _ _) nq));have HG1:=Lib.hid (HUL.out.pk.gn.trans (Gn.of (bdrew (Below.refl W.heap.size W) nq) HK1.out.leW));have HX1:Hid ((W.drewN nq).heap[w.heap.size]? =some (.cells #[.pointer (some ⟨p,0,none⟩)] 253 (0,0))):=Lib.hid HUL.out.pk.box;generalize W.drewN nq=W1 at HW1 HG1 HX1 ⊢;clear m1 m2 m3;have m1:W1.cell? ⟨w.heap.size,0,none⟩=some (.pointer (some ⟨p,0,none⟩)):=(cell_of_row _ _ _ _ _ _ HX1.out).trans rfl;have m2:=HW1.out.c8;have m4:=HW1.out.f8;go_wp2_with fail;go_still_tail 12,(by kernel_rfl);change wpList _ _ _ _ _ W1.drew;have HW2:=Lib.hid (HW1.out.below (Below.refl _ _).drew);have HG2:=Lib.hid (HG1.out.trans (Gn.of ((Below.refl W1.heap.size W1).drew) HW1.out.leW));have HX2:Hid (W1.drew.heap[w.heap.size]? =some (.cells #[.pointer (some ⟨p,0,none⟩)] 253 (0,0))):=Lib.hid HX1.out;generalize W1.drew=W2 at HW2 HG2 HX2 ⊢;clear m1 m2 m4;have m1:W2.cell? ⟨w.heap.size,0,none⟩=some (.pointer (some ⟨p,0,none⟩)):=(cell_of_row _ _ _ _ _ _ HX2.out).trans rfl;have m2:=HW2.out.c8;have m4:=HW2.out.f8;go_upto_region 6 with (fail)
       clear m1 m2 m4;have hput:=HW2.out.put (v:= .slice none 0 0) (W2:=W2) (lv2:= .slice (some ⟨g1,0,none⟩) l.length c1) (left2:=l) (World.grownBy.refl W2 _) (.inl rfl) (own_pop (by have:=HW2.out.row;rw [List.length_append] at this ⊢;exact this)) (fun e=>HW2.out.ne e);have HW3:=Lib.hid hput.1;have HG3:=Lib.hid (HG2.out.trans hput.2);have HX3:=Lib.hid (hput.2.oth _ _ _ _ (by decide) (by decide) HX2.out);clear hput;generalize W2.setCell ⟨p,8,none⟩ (.slice (some ⟨g1,0,none⟩) l.length c1)=W3 at HW3 HG3 HX3 ⊢;obtain ⟨v,hv⟩:∃v,sn[q]? =some v:=⟨_,List.getElem?_eq_getElem (by have:=HW3.out.len;omega)⟩;have m1:W3.cell? ⟨w.heap.size,0,none⟩=some (.pointer (some ⟨p,0,none⟩)):=(cell_of_row _ _ _ _ _ _ HX3.out).trans rfl;have m2:=HW3.out.c7;have m3:=HW3.out.seenAt hv;have m4:=HW3.out.seenF q;have hpl:m.procs.length≤140737488355328:=HW3.out.md.procs.1;have hV:=Lib.hid hv;clear hv;have hw3:IntKind.i64.wrap ((proc:Int)+1)= (proc:Int)+1:=IntWalk.i64_in _ (by omega);by_cases hseen:v= (proc:Int)+1
       · have hsb: (v == (proc:Int)+1)=true:=by rw [beq_iff_eq];exact hseen
         have HUL2:Hid (UL B p sb w.heap.size h m proc r w f sn l W3):=Lib.hid ⟨by rw [←HUL.out.run,usesF_seen (by rw [hV.out,hseen])],by have:=HUL.out.lt;rw [List.length_append] at this;simp only [List.length_singleton] at this;omega,by omega,fun q' hq'=>HUL.out.mem q' (List.mem_append_left _ hq'),⟨⟨_,HW3.out⟩,HX3.out,HG3.out⟩⟩;clear hseen;go_wp2_with fail;go_step3;exact ⟨rfl,f,by omega,_,_,HUL2,usF_of _ rfl⟩
       · have hsb: (v == (proc:Int)+1)=false:=by rw [beq_eq_false_iff_ne];exact hseen
         have HNS:Hid (sn[q]? ≠some ((proc:Int)+1)):=Lib.hid (by rw [hV.out];intro e;injection e with e;exact hseen e);have HNE:=Lib.hid hseen;clear hseen;go_upto_region 8 with (fail)
         clear m1 m2 m3 m4;have hsee:=HW3.out.see q ((proc:Int)+1);have HW4:=Lib.hid hsee.1;have HG4:=Lib.hid (HG3.out.trans hsee.2);have HX4:=Lib.hid (hsee.2.oth _ _ _ _ (by decide) (by decide) HX3.out);clear hsee;generalize W3.setCell ⟨sb,q,none⟩ (.int .i64 ((proc:Int)+1))=W4 at HW4 HG4 HX4 ⊢;obtain ⟨x,hget⟩:∃x,m.exprs[q]? =some x:=⟨_,List.getElem?_eq_getElem hq⟩;obtain ⟨g2,off2,ho,hg2,hex⟩:=HW4.out.md.exprs.get hget;have HXO:=Lib.hid (HEX.out.ok q x hget);have HGET:=Lib.hid hget;obtain ⟨a2,ha2⟩:∃a2,off2+q*12=a2:=⟨_,rfl⟩;rw [ha2] at hex;obtain ⟨o1,p1,o2,p2,o3,p3,hxc,hd1,hd2,hd3⟩:=hex.xc;have HE:=Lib.hid hex;have HXC:=Lib.hid hxc;have HD1:=Lib.hid hd1;have HNO:Hid (useB m proc x=false→∀W',UJ B p sb h m (sn.set q ((proc:Int)+1)) l W'→Gn B w W'→UsesP B p sb h m r w (.returned (.bool false)) W'):=Lib.hid fun hu W' hj hg=>by
          have:=HUL.out.run;rw [usesF_no HNS.out HGET.out hu] at this;rw [←this];exact ⟨rfl,⟨_,hj⟩,hg⟩
         have HTG:Hid (toGo m proc (sn.set q ((proc:Int)+1))+ (partsL x).length=toGo m proc sn):=Lib.hid (toGo_set HGET.out hV.out HNE.out);have HDONE:Hid (∀W',useB m proc x=true→PK B p sb w.heap.size h m (sn.set q ((proc:Int)+1)) w ((partsL x).foldl (fun l q=>l ++ [q]) l) W'→UL B p sb w.heap.size h m proc r w f (sn.set q ((proc:Int)+1)) (l ++ partsL x) W'):=Lib.hid fun W' hu hpk=>by
          rw [fold_push] at hpk;refine ⟨by rw [←HUL.out.run,usesF_yes HNS.out HGET.out hu], ?_,by omega,fun q' hq'=> ?_,hpk⟩
          · have h1:=HUL.out.lt;have h2:=HTG.out;rw [List.length_append] at h1 ⊢;simp only [List.length_singleton] at h1;omega
          · rcases List.mem_append.1 hq' with hq' | hq'
            · exact HUL.out.mem q' (List.mem_append_left _ hq')
            · have:=HXO.out.2 q' hq';omega
         have HOK:Hid (∀l1 (q':Int) l2,partsL x=l1 ++ q' :: l2→ (l1.foldl (fun l q=>l ++ [q]) l).length≤100000):=Lib.hid fun l1 q' l2 e=>by
          rw [fold_push,List.length_append];have h1:=HUL.out.lt;have h2:=HTG.out;rw [e] at h2;rw [List.length_append] at h1 h2;simp only [List.length_singleton,List.length_cons] at h1 h2;omega
         have HIN:Hid ((off2:Nat)+q*12=a2):=Lib.hid ha2;have n1:W4.cell? ⟨w.heap.size,0,none⟩=some (.pointer (some ⟨p,0,none⟩)):=(cell_of_row _ _ _ _ _ _ HX4.out).trans rfl;have n2:W4.cell? ⟨p,6,none⟩=some (.slice (some ⟨g2,off2,none⟩) m.exprs.length h.ec):=by rw [←ho];exact HW4.out.ck.c6
         have n3:W4.cell? ⟨p,5,none⟩=some (.int .i64 m.claim):=HW4.out.ck.c5;have c0:=hxc.c0;clear hex hxc hd1 hd2 hd3 hget ho;rw [←ha2] at c0;clear ha2;go_upto_region 10 with (fail)
         rw [HIN.out];clear n2 c0;have hpr: (proc:Int) < m.procs.length:=by omega
         by_cases p39:x.op=39
         · have b39: (x.op == 39)=true:=by rw [p39];rfl
           have HZ:=Lib.hid (HNO.out (by unfold useB;rw [if_pos p39]) W4 ⟨_,HW4.out⟩ HG4.out);clear p39;go_wp2_with fail;simp only [Exit.jump];go_ret;exact HZ.out
         · have b39: (x.op == 39)=false:=by rw [beq_eq_false_iff_ne];exact p39
           by_cases p31:x.op=31
           · have b31: (x.op == 31)=true:=by rw [p31];rfl
             have HUV:Hid (useB m proc x=decide ((proc:Int)≠m.claim)):=Lib.hid (by unfold useB;rw [if_neg p39,if_pos p31]);clear p39 p31;by_cases hcl: (proc:Int)=m.claim
             · have hcb: ((proc:Int) == m.claim)=true:=by rw [beq_iff_eq];exact hcl
               have HZ:=Lib.hid (HNO.out (by rw [HUV.out];exact decide_eq_false (fun h=>h hcl)) W4 ⟨_,HW4.out⟩ HG4.out);clear hcl;go_wp2_with fail;simp only [Exit.jump];go_ret;exact HZ.out
             · have hcb: ((proc:Int) == m.claim)=false:=by rw [beq_eq_false_iff_ne];exact hcl
               have HU:Hid (useB m proc x=true):=Lib.hid (by rw [HUV.out];exact decide_eq_true hcl);clear hcl;have HPJ:Hid (PK B p sb w.heap.size h m (sn.set q ((proc:Int)+1)) w l W4):=Lib.hid ⟨⟨_,HW4.out⟩,HX4.out,HG4.out⟩;have HXE:Hid (exprAt B W4 g2 a2 x):=Lib.hid HE.out;have hBW:B≤W4.heap.size:=HW4.out.leW;have hrun:=run_uses1;go_wp2_with fail;clear hrun;refine (partsC (doer2 B p sb w.heap.size h m (sn.set q ((proc:Int)+1)) w) _ l W4 hBW HXE.out hg2 HPJ.out (fun l1 q' l2 e=>HOK.out l1 q' l2 e)).mono ?_;rintro e W9 ⟨rfl,hpk,hbe⟩;have HUL2:=Lib.hid (HDONE.out _ HU.out hpk);clear hpk hbe;go_wp2_with fail;go_step3;refine ⟨rfl,f,by omega,_,_,HUL2,usF_of _ rfl⟩
           · have b31: (x.op == 31)=false:=by rw [beq_eq_false_iff_ne];exact p31
             by_cases p2:x.op=2
             · have b2: (x.op == 2)=true:=by rw [p2];rfl
               have HUV:Hid (useB m proc x=liesB m proc x.v):=Lib.hid (by unfold useB;rw [if_neg p39,if_neg p31,if_pos p2]);have HTY:Hid (x.v.scope=2→ptypeB m x.v.type=true):=Lib.hid fun hs=>by
                have h1:=HXO.out.1;unfold exprB kindB at h1;rw [if_neg (by omega),if_pos p2] at h1;simp only [Bool.and_eq_true] at h1;have h2:=h1.2;unfold varB varTailB at h2;rw [if_pos hs] at h2;simp only [Bool.and_eq_true] at h2;exact h2.2
               clear p39 p31 p2;have v0:=HXC.out.v0;have v1:=HXC.out.v1;have v2:=HXC.out.v2;have v3:=HXC.out.v3;have v4:=HXC.out.v4;go_wp2_with fail;go_still_tail 6,(by kernel_rfl);change wpList _ _ _ _ _ W4.drew;clear v0 v1 v2 v3 v4 n1 n3;have HW5:=Lib.hid (HW4.out.below (Below.refl _ _).drew);have HG5:=Lib.hid (HG4.out.trans (Gn.of ((Below.refl W4.heap.size W4).drew) HW4.out.leW));have HX5:Hid (W4.drew.heap[w.heap.size]? =some (.cells #[.pointer (some ⟨p,0,none⟩)] 253 (0,0))):=Lib.hid HX4.out;have HE5:Hid (exprAt B W4.drew g2 a2 x):=Lib.hid (HE.out.below ((Below.refl _ _).drew) hg2);have HD5:Hid (Row B o1 3 (dimAt W4.drew) x.v.dims):=Lib.hid (HD1.out.mono fun _ _ _ hg=>dimAt.below ((Below.refl _ _).drew) hg);generalize W4.drew=W5 at HW5 HG5 HX5 HE5 HD5 ⊢;go_wp2_with fail;refine (liesC proc x.v o1 p1 W5 HW5.out.ck HD5.out hproc HTY.out).mono ?_;rintro e W6 ⟨rfl,hb6⟩;have HW6:=Lib.hid (HW5.out.below hb6);have HG6:=Lib.hid (HG5.out.trans (Gn.of hb6 HW5.out.leW));have HX6:=Lib.hid ((hb6.block _ (lt_of_block HX5.out)).trans HX5.out);have HE6:Hid (exprAt B W6 g2 a2 x):=Lib.hid (HE5.out.below (hb6.mono HW5.out.leW) hg2);clear hb6;obtain ⟨u,hu⟩:∃u,liesB m proc x.v=u:=⟨_,rfl⟩;rw [hu];have HU6:=Lib.hid hu;clear hu;cases u
               · have HZ:=Lib.hid (HNO.out (by rw [HUV.out,HU6.out]) W6 ⟨_,HW6.out⟩ HG6.out);go_wp2_with fail;simp only [Exit.jump];go_ret;exact HZ.out
               · have HU:Hid (useB m proc x=true):=Lib.hid (by rw [HUV.out,HU6.out]);have n1:W6.cell? ⟨w.heap.size,0,none⟩=some (.pointer (some ⟨p,0,none⟩)):=(cell_of_row _ _ _ _ _ _ HX6.out).trans rfl;have HPJ:Hid (PK B p sb w.heap.size h m (sn.set q ((proc:Int)+1)) w l W6):=Lib.hid ⟨⟨_,HW6.out⟩,HX6.out,HG6.out⟩;have HXE:Hid (exprAt B W6 g2 a2 x):=Lib.hid HE6.out;have hBW:B≤W6.heap.size:=HW6.out.leW;have hrun:=run_uses1;go_wp2_with fail;clear hrun;refine (partsC (doer2 B p sb w.heap.size h m (sn.set q ((proc:Int)+1)) w) _ l W6 hBW HXE.out hg2 HPJ.out (fun l1 q' l2 e=>HOK.out l1 q' l2 e)).mono ?_;rintro e W9 ⟨rfl,hpk,hbe⟩;have HUL2:=Lib.hid (HDONE.out _ HU.out hpk);clear hpk hbe;go_wp2_with fail;go_step3;refine ⟨rfl,f,by omega,_,_,HUL2,usF_of _ rfl⟩
             · have b2: (x.op == 2)=false:=by rw [beq_eq_false_iff_ne];exact p2
               have HU:Hid (useB m proc x=true):=Lib.hid (by unfold useB;rw [if_neg p39,if_neg p31,if_neg p2]);clear p39 p31 p2;have HPJ:Hid (PK B p sb w.heap.size h m (sn.set q ((proc:Int)+1)) w l W4):=Lib.hid ⟨⟨_,HW4.out⟩,HX4.out,HG4.out⟩;have HXE:Hid (exprAt B W4 g2 a2 x):=Lib.hid HE.out;have hBW:B≤W4.heap.size:=HW4.out.leW;have hrun:=run_uses1;go_wp2_with fail;clear hrun;refine (partsC (doer2 B p sb w.heap.size h m (sn.set q ((proc:Int)+1)) w) _ l W4 hBW HXE.out hg2 HPJ.out (fun l1 q' l2 e=>HOK.out l1 q' l2 e)).mono ?_;rintro e W9 ⟨rfl,hpk,hbe⟩;have HUL2:=Lib.hid (HDONE.out _ HU.out hpk);clear hpk hbe;go_wp2_with fail;go_step3;refine ⟨rfl,f,by omega,_,_,HUL2,usF_of _ rfl⟩
   intro hpass;have HPASS:=Lib.hid hpass;clear hpass;go_wp2_with fail
   go_region_law
    (refine step_append_lies _ rfl (.tmp 14) (.tmp 16) 25 rfl B 3 i0 (.int .i64 0) 1 8 Tryz.underlying25 HI.out.1 HI.out.2.1 HI.out.2.2.1 HI.out.2.2.2 rfl (by decide) (.slice (some ⟨g0,0,none⟩) 0 cap0) 0 [] (by simp [Act.eval,Act.put]) (HOWN.out _ (ball _).drew) ⟨W0.heap.size,0,none⟩ 1 1 (leftV [(top:Int)]) (by simp [Act.eval,Act.put]) rfl (news_one (heap_alloc_new _ _)) (one_left top) (by decide) (by unfold maxLen;omega) (by omega) (Nat.le_trans HKW.out.leW (ball _).drew.size) _ rfl ?_;intro g cap w2 hown hgrow hat hlt;have HP2:=Lib.hid (push_put (left0:=[]) (q:=top) HKW.out ((ball _).drew) HVL.out hgrow hown rfl hat);have HB:Hid (w2.heap[w.heap.size]? =some (.cells #[.pointer (some ⟨p,0,none⟩)] 253 (0,0))):=Lib.hid ((hgrow.block _ (Nat.lt_of_lt_of_le (lt_of_block HB0.out.box) (ball _).drew.size) (HFW.out _ _ _ _ (by decide) HB0.out.box)).trans (((ball _).drew.block _ (lt_of_block HB0.out.box)).trans HB0.out.box));have HC:Hid (∃cs,w2.heap[p]? =some (.cells cs 234 (0,0))∧cs[8]? =some lv):=Lib.hid ⟨_,(hgrow.block p (Nat.lt_of_lt_of_le HKW.out.lt (ball _).drew.size) (HFW.out _ _ _ _ (by decide) HKW.out.kp)).trans (((ball _).drew.block _ HKW.out.lt).trans HKW.out.kp),rfl⟩;obtain ⟨cs,hc1,hc2⟩:=HC.out;have k1:w2.cell? ⟨w.heap.size,0,none⟩=some (.pointer (some ⟨p,0,none⟩)):=(cell_of_row _ _ _ _ _ _ HB.out).trans rfl;have k2:w2.cell? ⟨p,8,none⟩=some lv:=(cell_of_row _ _ _ _ _ _ hc1).trans hc2;have k3:w2.frozen? ⟨p,8,none⟩=false:=frozen_of_row _ _ _ _ _ hc1;clear hown hgrow hat hc1 hc2;simp only [Act.put,List.setIfInBounds_toArray,List.set_cons_zero,List.set_cons_succ])
   all_goals (
    clear k1 k2 k3 l1 l2 f2;go_wp2_with fail;go_step3;refine (by assumption:∀ (a:Act) (w:World),Code.wp Tryz.prog _ _ a w→ (_:Act→World→Prop) a w) _ _ ?_;refine HPASS.out 70000 _ _ ?_;exact ⟨seen,[(top:Int)],Lib.hid (HU0.out _ HP2.out),usF_of _ rfl⟩)
end Go.Proofs.YthfldokfnjpkmaaGreatDoor
