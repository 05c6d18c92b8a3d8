/- One statement. -/
import Derived.Test.YtnoibjahliafpaaDoorM13
set_option linter.unusedVariables false
set_option linter.unusedSimpArgs false
namespace Go.Proofs.YtnoibjahliafpaaDoor
open Go.ChangeShapes Go.WideShapes Go.ChangeAt Go.RowKit
def AskIs (m:ModelD) (k:Int) (v5 v6 v7 v8 v9 v10 v11:Value) (w wx:World):Prop:=
 ∃q,askOf m k=some q∧v5= .bool q.hasA∧v6= .bool q.hasB∧v7= .int .i64 q.mostN∧v8= .int .i64 q.most∧v9= .int .i64 q.least∧v10= .bool q.matches_∧v11= .bool q.text∧w=wx
theorem size0 {b:ByteArray} (h:b.size=0):b= { data:=#[] }:=by
 cases b with | mk d=>congr 1;exact Array.eq_empty_of_size_eq_zero h
theorem size1 {b:ByteArray} (h:0 < b.size):¬b.toList= []:=by
 rw [ByteArray.toList_eq];intro e;have :b.data.size=0:=by rw [←Array.length_toList,e];rfl
 have h2:b.data.size=b.size:=rfl;omega
set_option maxHeartbeats 8000000 in
set_option maxRecDepth 100000 in
theorem stmtC {B p g a:Nat} {h:MH} {m:ModelD} {s:StmtD} (w:World) (hk:Ck B w p h m) (hs:stmtAt B w g a s) (hg:g < B):
 Calls Tryd.prog 76 #[.pointer (some ⟨p,0,none⟩),.pointer (some ⟨g,a,none⟩)] w fun e w'=>e= .returned (.bool (stmtB m s))∧Below w.heap.size w w':=by
 have HK:=Lib.hid hk;have HS:=Lib.hid hs;obtain ⟨o1,p1,o2,p2,hsc,hr1,hr2⟩:=hs.sc;have HSC:=Lib.hid hsc;have HR:=Lib.hid (And.intro hr1 hr2);have c0:=hsc.c0;have cs:=hk.c2;have l1:=hr1.1;have l2:=hr2.1;have l3:=hk.md.shapes.1;clear hsc hr1 hr2 hs hk;by_cases hnone:askOf m s.kind=none
 · have HV:Hid (stmtB m s=false):=Lib.hid (by unfold stmtB;rw [hnone]);have hk: (¬s.kind=1)∧ (¬s.kind=2)∧ (¬s.kind=3)∧ (¬s.kind=4)∧ (¬s.kind=5)∧ (¬s.kind=6)∧ (¬s.kind=7)∧ (¬s.kind=8)∧ (¬s.kind=9):=by
    unfold askOf at hnone;split at hnone
    · cases hnone
    · split at hnone
      · cases hnone
      · split at hnone
        · cases hnone
        · split at hnone
          · cases hnone
          · split at hnone
            · cases hnone
            · split at hnone
              · cases hnone
              · split at hnone
                · cases hnone
                · omega
   have b1: (s.kind == 1)=false:=by simp [hk]
   have b2: (s.kind == 2)=false:=by simp [hk]
   have b3: (s.kind == 3)=false:=by simp [hk]
   have b4: (s.kind == 4)=false:=by simp [hk]
   have b5: (s.kind == 5)=false:=by simp [hk]
   have b6: (s.kind == 6)=false:=by simp [hk]
   have b7: (s.kind == 7)=false:=by simp [hk]
   have b8: (s.kind == 8)=false:=by simp [hk]
   have b9: (s.kind == 9)=false:=by simp [hk]
   clear hk hnone;go_enter Tryd.func76,Tryd.ntmps76;go_wp2_with fail;go_ret;exact ⟨retB HV.out.symm,Below.refl _ _⟩
 · have HNN:=Lib.hid hnone;clear hnone;go_enter Tryd.func76,Tryd.ntmps76;go_upto_block 0 with fail
   go_cut [5,6,7,8,9,10,11] from 18 to 40 (fun v5 v6 v7 v8 v9 v10 v11 wx=>Hid (AskIs m s.kind v5 v6 v7 v8 v9 v10 v11 w wx))
   case first=>
    have hkk:s.kind=1∨s.kind=2∨s.kind=3∨s.kind=4∨s.kind=5∨s.kind=6∨s.kind=7∨s.kind=8∨s.kind=9:=by
     have h0:=HNN.out;by_cases h1:s.kind=1∨s.kind=2∨s.kind=3∨s.kind=4∨s.kind=5∨s.kind=6∨s.kind=7∨s.kind=8∨s.kind=9
     · exact h1
     · exfalso
       apply h0;unfold askOf;rw [if_neg (by omega),if_neg (by omega),if_neg (by omega),if_neg (by omega),if_neg (by omega),if_neg (by omega),if_neg (by omega)]
    have HKK:Hid (∀k,s.kind=k→∀v5 v6 v7 v8 v9 v10 v11 wx,AskIs m k v5 v6 v7 v8 v9 v10 v11 w wx→Hid (AskIs m s.kind v5 v6 v7 v8 v9 v10 v11 w wx)):=Lib.hid fun k e v5 v6 v7 v8 v9 v10 v11 wx h=>Lib.hid (e ▸ h)
    generalize s.kind=kd at*;rcases hkk with rfl | rfl | rfl | rfl | rfl | rfl | rfl | rfl | rfl
    all_goals (
     go_wp2_with fail;go_meet;case rel=>exact Lib.hid ⟨_,rfl,rfl,rfl,rfl,rfl,rfl,rfl,rfl,rfl⟩)
   case rest=>
    obtain ⟨⟨hA,hB,mN,le,mo,mt,tx⟩,hq,rfl,rfl,rfl,rfl,rfl,rfl,rfl,rfl⟩:=hcut.out;dsimp only;have HQ:=Lib.hid hq;have HV:Hid (stmtB m s= (askAB m s ⟨hA,hB,mN,le,mo,mt,tx⟩ && askN s ⟨hA,hB,mN,le,mo,mt,tx⟩ && s.args.all (isExprB m) && (!(decide (s.kind=2∨s.kind=9)) || settableB m s.a) && (!mt || receivesB m s))):=Lib.hid (by unfold stmtB;rw [hq]);clear hq hcut HNN c0 cs;have d1:=HSC.out.c1;have d2:=HSC.out.c2;go_upto_region 20 with fail
    go_cut [80] from 41 to 80 (fun v wx=>v= .bool (!askAB m s ⟨hA,hB,mN,le,mo,mt,tx⟩)∧w=wx)
    case first=>
     obtain ⟨bA,hbA⟩:∃b,(s.a != -1)=b:=⟨_,rfl⟩;obtain ⟨bB,hbB⟩:∃b,(s.b != -1)=b:=⟨_,rfl⟩;obtain ⟨eA,heA⟩:∃b,isExprB m s.a=b:=⟨_,rfl⟩;obtain ⟨eB,heB⟩:∃b,isExprB m s.b=b:=⟨_,rfl⟩;have HAB:Hid ((!askAB m s ⟨hA,hB,mN,le,mo,mt,tx⟩)= ((hA != bA) || (hA && !eA) || (hB != bB) || (hB && !eB))):=Lib.hid (by
      unfold askAB;have q1:decide (s.a≠ -1)=bA:=by rw [←hbA,Bool.eq_iff_iff];simp
      have q2:decide (s.b≠ -1)=bB:=by rw [←hbB,Bool.eq_iff_iff];simp
      simp only [q1,q2,heA,heB];cases hA <;> cases bA <;> cases hB <;> cases bB <;> cases eA <;> cases eB <;> rfl)
     have HEA:=Lib.hid heA;have HEB:=Lib.hid heB;clear heA heB;cases hA <;> cases bA <;> cases hB <;> cases bB
     all_goals (
      go_wp2_with (go_at_call 91;(with_reducible refine (isExprC _ _ HK.out).mono ?_);rintro e w' ⟨rfl,rfl⟩;(first | (rw [HEA.out];cases eA) | (rw [HEB.out];cases eB)))
      all_goals (
       go_meet;case rel=>exact ⟨congrArg Value.bool HAB.out.symm,rfl⟩))
    case rest=>
     obtain ⟨rfl,rfl⟩:=hcut;obtain ⟨ab,hab⟩:∃b,(!askAB m s ⟨hA,hB,mN,le,mo,mt,tx⟩)=b:=⟨_,rfl⟩;have hab2:askAB m s ⟨hA,hB,mN,le,mo,mt,tx⟩= !ab:=by rw [←hab,Bool.not_not]
     rw [hab2] at HV;rw [hab];clear hab hab2 d1 d2;cases ab;rotate_left
     · have HZ:Hid (stmtB m s=false):=Lib.hid (by rw [HV.out];rfl);go_wp2_with fail;go_ret;exact ⟨retB HZ.out.symm,Below.refl _ _⟩
     · have d3:=HSC.out.c3;have d4:=HSC.out.c4;have d5:=HSC.out.c5;have d6:=HSC.out.c6;go_upto_region 22 with fail
       go_cut [146] from 81 to 146 (fun v wx=>v= .bool (!askN s ⟨hA,hB,mN,le,mo,mt,tx⟩)∧w=wx)
       case first=>
        have HN:Hid (∀b:Bool,((s.n < 0∨mN < s.n∨ (s.args.length:Int) < le∨ (0≤mo∧mo < (s.args.length:Int))∨ (mt=false∧0 < s.mat.length)∨ (tx=false∧s.text.size≠0)∨256 < s.text.size)↔b=true)→Value.bool b= .bool (!askN s ⟨hA,hB,mN,le,mo,mt,tx⟩)):=Lib.hid (by
         intro b hb;congr 1;unfold askN;rw [Bool.not_not,Bool.eq_iff_iff,←hb];simp only [decide_eq_true_eq])
        go_step
        simp only [List.append];by_cases n1:s.n < 0
        · go_wp2_with fail;go_meet;case rel=>exact ⟨HN.out _ (by constructor <;> intro _ <;> first | rfl | exact .inl n1),rfl⟩
        by_cases n2:mN < s.n
        · go_wp2_with fail;go_meet;case rel=>exact ⟨HN.out _ (by constructor <;> intro _ <;> first | rfl | exact .inr (.inl n2)),rfl⟩
        by_cases n3: (s.args.length:Int) < le
        · go_wp2_with fail;go_meet;case rel=>exact ⟨HN.out _ (by constructor <;> intro _ <;> first | rfl | exact .inr (.inr (.inl n3))),rfl⟩
        by_cases n4:0≤mo∧mo < (s.args.length:Int)
        · obtain ⟨n41,n42⟩:=n4;go_wp2_with fail;go_meet;case rel=>exact ⟨HN.out _ (by constructor <;> intro _ <;> first | rfl | exact .inr (.inr (.inr (.inl ⟨n41,n42⟩)))),rfl⟩
        have n44:0≤s.n:=by omega
        have n45:s.n≤mN:=by omega
        have n46:le≤ (s.args.length:Int):=by omega
        have HZ:Hid (∀b:Bool,(((mt=false∧0 < s.mat.length)∨ (tx=false∧s.text.size≠0)∨256 < s.text.size)↔b=true)→Value.bool b= .bool (!askN s ⟨hA,hB,mN,le,mo,mt,tx⟩)):=Lib.hid (fun b hb=>HN.out b (by
         constructor
         · rintro (h | h | h | h | h)
           · exact absurd h n1
           · exact absurd h n2
           · exact absurd h n3
           · exact absurd h n4
           · exact hb.1 h
         · intro h;exact .inr (.inr (.inr (.inr (hb.2 h))))))
        have n43: (mo < 0∧mt=false∧tx=true)∨ (0≤mo∧ (s.args.length:Int)≤mo∧tx=false):=by
         have hq:=HQ.out;unfold askOf at hq
         repeat' split at hq
         all_goals (first | (cases hq;done) | (cases hq;simp at n4 ⊢;done) | (cases hq;simp at n4 ⊢;omega))
        clear HN n4 n44 n45 n46;rcases n43 with ⟨n40,rfl,rfl⟩ | ⟨n47,n40,rfl⟩
        · have n47:¬ (0:Int)≤mo:=by omega
          clear n40;rcases Nat.eq_zero_or_pos s.mat.length with m0 | m0
          · have m1:¬ (0:Int) < s.mat.length:=by omega
            rcases Nat.lt_or_ge 256 s.text.size with t1 | t1
            · have t2: (256:Int) < s.text.size:=by omega
              go_wp2_with fail;go_meet;case rel=>exact ⟨HZ.out _ (by exact ⟨fun _=>rfl,fun _=> .inr (.inr t1)⟩),rfl⟩
            · have t2:¬ (256:Int) < s.text.size:=by omega
              go_wp2_with fail;go_meet;case rel=>exact ⟨HZ.out _ (by refine ⟨fun hh=> ?_,fun hh=>by cases hh⟩;rcases hh with ⟨h1,h2⟩ | ⟨h1,h2⟩ | h1 <;> first | (cases h1;done) | omega),rfl⟩
          · have m1: (0:Int) < s.mat.length:=by omega
            go_wp2_with fail;go_meet;case rel=>exact ⟨HZ.out _ (by exact ⟨fun _=>rfl,fun _=> .inl ⟨by first | rfl | trivial,m0⟩⟩),rfl⟩
        · have n48:¬mo < (s.args.length:Int):=by omega
          clear n40;rcases Nat.eq_zero_or_pos s.text.size with t0 | t0
          · have ht:=size0 t0;have HT:=Lib.hid t0;generalize s.text=txt at*;subst ht;cases mt
            · rcases Nat.eq_zero_or_pos s.mat.length with m0 | m0
              · have m1:¬ (0:Int) < s.mat.length:=by omega
                go_wp2_with fail;go_meet;case rel=>exact ⟨HZ.out _ (by refine ⟨fun hh=> ?_,fun hh=>by cases hh⟩;rcases hh with ⟨h1,h2⟩ | ⟨h1,h2⟩ | h1 <;> first | (cases h1;done) | omega),rfl⟩
              · have m1: (0:Int) < s.mat.length:=by omega
                go_wp2_with fail;go_meet;case rel=>exact ⟨HZ.out _ (by exact ⟨fun _=>rfl,fun _=> .inl ⟨by first | rfl | trivial,m0⟩⟩),rfl⟩
            · go_wp2_with fail;go_meet;case rel=>exact ⟨HZ.out _ (by refine ⟨fun hh=> ?_,fun hh=>by cases hh⟩;rcases hh with ⟨h1,h2⟩ | ⟨h1,h2⟩ | h1 <;> first | (cases h1;done) | omega),rfl⟩
          · have ht:=size1 t0;cases mt
            · rcases Nat.eq_zero_or_pos s.mat.length with m0 | m0
              · have m1:¬ (0:Int) < s.mat.length:=by omega
                go_wp2_with fail;go_meet;case rel=>exact ⟨HZ.out _ (by exact ⟨fun _=>rfl,fun _=> .inr (.inl ⟨by first | rfl | trivial,Nat.pos_iff_ne_zero.1 t0⟩)⟩),rfl⟩
              · have m1: (0:Int) < s.mat.length:=by omega
                go_wp2_with fail;go_meet;case rel=>exact ⟨HZ.out _ (by exact ⟨fun _=>rfl,fun _=> .inl ⟨by first | rfl | trivial,m0⟩⟩),rfl⟩
            · go_wp2_with fail;go_meet;case rel=>exact ⟨HZ.out _ (by exact ⟨fun _=>rfl,fun _=> .inr (.inl ⟨by first | rfl | trivial,Nat.pos_iff_ne_zero.1 t0⟩)⟩),rfl⟩
       case rest=>
        obtain ⟨rfl,rfl⟩:=hcut;obtain ⟨an,han⟩:∃b,(!askN s ⟨hA,hB,mN,le,mo,mt,tx⟩)=b:=⟨_,rfl⟩;have han2:askN s ⟨hA,hB,mN,le,mo,mt,tx⟩= !an:=by rw [←han,Bool.not_not]
        rw [han2] at HV;rw [han];clear han han2 d3 d5 d6;cases an;rotate_left
        · have HZ:Hid (stmtB m s=false):=Lib.hid (by rw [HV.out];rfl);go_wp2_with fail;go_ret;exact ⟨retB HZ.out.symm,Below.refl _ _⟩
        · have HW:Hid (stmtB m s= (s.args.all (isExprB m) && (!(decide (s.kind=2∨s.kind=9)) || settableB m s.a) && (!mt || receivesB m s))):=Lib.hid (by rw [HV.out];rfl);clear HV HQ;go_wp2_with fail
          go_loop [13,152] (fun xv iv=>∃k:Nat,iv= .int .i64 k∧k≤s.args.length∧Hid (∀j (hj:j < s.args.length),j < k→isExprB m s.args[j]=true)) (fun xv iv=>s.args.length - (intOf iv).toNat)
          case atStart=>exact ⟨0,rfl,by omega,Lib.hid fun j _ h=>by omega⟩
          case round=>
           obtain ⟨k,rfl,hk,HD⟩:=hrel;have hk0: (0:Int)≤k:=by omega
           by_cases hlt:k < s.args.length
           · have hlti: (k:Int) < s.args.length:=by omega
             obtain ⟨ga,offa,hoa,hga,e0⟩:=HR.out.1.cell hlt;subst hoa;obtain ⟨x,hx⟩:∃x,s.args[k]=x:=⟨_,rfl⟩;have f0:w.cell? ⟨ga,offa+k,none⟩=some (.int .i64 x):=by have:=e0;unfold intAt at this;rw [Nat.mul_one,hx] at this;exact this
             have HBAD:Hid (isExprB m x=false→stmtB m s=false):=Lib.hid fun h=>by rw [HW.out,all_bad hlt (by rw [hx];exact h)];rfl
             have HGO:Hid (isExprB m x=true→∀j (hj:j < s.args.length),j < k+1→isExprB m s.args[j]=true):=Lib.hid fun h j hj hjk=>by
              by_cases e:j=k
              · subst e;rw [hx];exact h
              · exact HD.out j hj (by omega)
             clear e0 hx;go_wp2_with fail;refine (isExprC x w HK.out).mono ?_;rintro e w' ⟨rfl,rfl⟩;obtain ⟨u,hu⟩:∃u,isExprB m x=u:=⟨_,rfl⟩;rw [hu];have HU:=Lib.hid hu;clear hu;cases u
             · have HZ:=Lib.hid (HBAD.out HU.out);go_wp2_with fail;go_ret;exact ⟨retB HZ.out.symm,Below.refl _ _⟩
             · have HZ:=Lib.hid (HGO.out HU.out);go_wp2_with fail;go_round;case rel=>exact ⟨k+1,by go_num,by omega,HZ⟩
               case measure=>simp [intOf];omega
           · have hlti:¬ (k:Int) < s.args.length:=by omega
             obtain ⟨st,hst⟩:∃b,settableB m s.a=b:=⟨_,rfl⟩;have HT:Hid (stmtB m s= ((!(decide (s.kind=2∨s.kind=9)) || st) && (!mt || receivesB m s))):=Lib.hid (by rw [HW.out,all_of fun j hj=>HD.out j hj (by omega),hst,Bool.true_and]);have HST:Hid (settableB m s.a=st):=Lib.hid hst;have d1:=HSC.out.c1;have d0:=HSC.out.c0;clear hst HW HD;by_cases k2:s.kind=2
             · have b2: (s.kind == 2)=true:=by simp [k2]
               have HT2:Hid (stmtB m s= (st && (!mt || receivesB m s))):=Lib.hid (by rw [HT.out,k2];simp);clear k2 HT;go_wp2_with fail;refine (settableC s.a w HK.out).mono ?_;rintro e w' ⟨rfl,rfl⟩;rw [HST.out];cases st
               · have HZ:Hid (stmtB m s=false):=Lib.hid (by rw [HT2.out];rfl);go_wp2_with fail;go_ret;exact ⟨retB HZ.out.symm,Below.refl _ _⟩
               · cases mt
                 · have HZ:Hid (stmtB m s=true):=Lib.hid (by rw [HT2.out];rfl);go_wp2_with fail;go_ret;exact ⟨retB HZ.out.symm,Below.refl _ _⟩
                 · have HZ:Hid (stmtB m s=receivesB m s):=Lib.hid (by rw [HT2.out];rfl);go_wp2_with fail;refine (receivesC w HK.out HS.out hg).mono ?_;rintro e w' ⟨rfl,hbe⟩;have HBE:=Lib.hid hbe;clear hbe;go_wp2_with fail;go_ret;exact ⟨retB HZ.out.symm,HBE.out⟩
             by_cases k9:s.kind=9
             · have b2: (s.kind == 2)=false:=by simp [k9]
               have b9: (s.kind == 9)=true:=by simp [k9]
               have HT2:Hid (stmtB m s= (st && (!mt || receivesB m s))):=Lib.hid (by rw [HT.out,k9];simp);clear k2 k9 HT;go_wp2_with fail;refine (settableC s.a w HK.out).mono ?_;rintro e w' ⟨rfl,rfl⟩;rw [HST.out];cases st
               · have HZ:Hid (stmtB m s=false):=Lib.hid (by rw [HT2.out];rfl);go_wp2_with fail;go_ret;exact ⟨retB HZ.out.symm,Below.refl _ _⟩
               · cases mt
                 · have HZ:Hid (stmtB m s=true):=Lib.hid (by rw [HT2.out];rfl);go_wp2_with fail;go_ret;exact ⟨retB HZ.out.symm,Below.refl _ _⟩
                 · have HZ:Hid (stmtB m s=receivesB m s):=Lib.hid (by rw [HT2.out];rfl);go_wp2_with fail;refine (receivesC w HK.out HS.out hg).mono ?_;rintro e w' ⟨rfl,hbe⟩;have HBE:=Lib.hid hbe;clear hbe;go_wp2_with fail;go_ret;exact ⟨retB HZ.out.symm,HBE.out⟩
             · have b2: (s.kind == 2)=false:=by simp [k2]
               have b9: (s.kind == 9)=false:=by simp [k9]
               have HT2:Hid (stmtB m s= (!mt || receivesB m s)):=Lib.hid (by rw [HT.out];simp [k2,k9]);clear k2 k9 HT;cases mt
               · have HZ:Hid (stmtB m s=true):=Lib.hid (by rw [HT2.out];rfl);go_wp2_with fail;go_ret;exact ⟨retB HZ.out.symm,Below.refl _ _⟩
               · have HZ:Hid (stmtB m s=receivesB m s):=Lib.hid (by rw [HT2.out];rfl);go_wp2_with fail;refine (receivesC w HK.out HS.out hg).mono ?_;rintro e w' ⟨rfl,hbe⟩;have HBE:=Lib.hid hbe;clear hbe;go_wp2_with fail;go_ret;exact ⟨retB HZ.out.symm,HBE.out⟩
end Go.Proofs.YtnoibjahliafpaaDoor
namespace Go.Proofs.YtnoibjahliafpaaDoor
open Go.ChangeShapes Go.WideShapes Go.ChangeAt Go.RowKit
theorem frameAt_get {m:ModelD} {n:Int} {k:Nat} {x:ProcD} (hn:n=k) (h:m.procs[k]? =some x):frameAt m n=x.frame.length:=by unfold frameAt;rw [hn,Int.toNat_natCast,h];rfl
theorem eqInt_sym (a b:Int): (a == b)= (b == a):=by rw [Bool.eq_iff_iff,beq_iff_eq,beq_iff_eq];exact eq_comm
set_option maxHeartbeats 2000000 in
set_option maxRecDepth 100000 in
theorem liesC {B p:Nat} {h:MH} {m:ModelD} (proc:Nat) (v:VarD) (o:Option Addr) (cap:Nat) (w:World) (hk:Ck B w p h m) (hin:Row B o 3 (dimAt w) v.dims)
 (hproc:proc < m.procs.length) (hty:v.scope=2→ptypeB m v.type=true):
 Calls Tryd.prog 79 #[.pointer (some ⟨p,0,none⟩),.int .i64 proc,.agg #[.int .i64 v.scope,.int .i64 v.slot,.int .i64 v.who,.int .i64 v.type,.slice o v.dims.length cap]] w fun e w'=>e= .returned (.bool (liesB m proc v))∧Below w.heap.size w w':=by
 have HK:=Lib.hid hk;have HIN:=Lib.hid hin;have hB:B≤w.heap.size:=by have:=hk.le;have:=hk.lt;omega
 obtain ⟨cs,hcs⟩:∃cs:Array Value,#[.int .i64 v.scope,.int .i64 v.slot,.int .i64 v.who,.int .i64 v.type,.slice o v.dims.length cap]=cs:=⟨_,rfl⟩;have HX:=Lib.hid (Bx.new w #[.int .i64 v.scope,.int .i64 v.slot,.int .i64 v.who,.int .i64 v.type,.slice o v.dims.length cap] 121);have HKW:=Lib.hid (HK.out.bx HX.out);have HCR:Hid (Calls Tryd.prog 95 #[.agg #[.int .i64 v.scope,.int .i64 v.slot,.int .i64 v.who,.int .i64 v.type,.slice o v.dims.length cap]] (w.alloc (Obj.cells #[.int .i64 v.scope,.int .i64 v.slot,.int .i64 v.who,.int .i64 v.type,.slice o v.dims.length cap] 121)) fun e w'=>e= .returned (.int .i64 (reachL v))∧Below w.heap.size w w'):=Lib.hid
  ((reachC v o cap B _ (HIN.out.mono fun _ _ _ hg=>dimAt.below (ball _) (by omega)) (by have:=HX.out.bel.size;omega)).mono fun _ _ ⟨h1,h2⟩=>⟨h1,HX.out.bel.trans (h2.mono HX.out.bel.size)⟩)
 have HBD:Hid (∀n,Below w.heap.size w ((w.alloc (Obj.cells #[.int .i64 v.scope,.int .i64 v.slot,.int .i64 v.who,.int .i64 v.type,.slice o v.dims.length cap] 121)).drewN n)):=Lib.hid fun n=>bdrew (ball _) n
 have c0:=HKW.out.c0;have c4:=HKW.out.c4;have c5:=HKW.out.c5;have b0: (w.alloc (Obj.cells #[.int .i64 v.scope,.int .i64 v.slot,.int .i64 v.who,.int .i64 v.type,.slice o v.dims.length cap] 121)).cell? ⟨w.heap.size,0,none⟩=some (.int .i64 v.scope):=HX.out.cell rfl;have b3: (w.alloc (Obj.cells #[.int .i64 v.scope,.int .i64 v.slot,.int .i64 v.who,.int .i64 v.type,.slice o v.dims.length cap] 121)).cell? ⟨w.heap.size,3,none⟩=some (.int .i64 v.type):=HX.out.cell rfl;have hpi: (proc:Int) < m.procs.length:=by omega
 have hp0: (0:Int)≤proc:=by omega
 have HV:Hid (liesB m proc v= (!(decide (v.scope=1∧ (proc:Int)=m.claim)) && decide (reachL v≤roomL m proc v))):=Lib.hid rfl;by_cases s1:v.scope=1
 · have e1: (v.scope == 1)=true:=by simp [s1]
   by_cases hcl: (proc:Int)=m.claim
   · have e2: ((proc:Int) == m.claim)=true:=by simp [hcl]
     have HZ:Hid (liesB m proc v=false):=Lib.hid (by rw [HV.out,decide_eq_true ⟨s1,hcl⟩];rfl);have HBE:=Lib.hid HX.out.bel;clear s1 hcl hty hin hk hcs cs;go_enter Tryd.func79,Tryd.ntmps79;go_wp2_with fail;go_ret;exact ⟨retB HZ.out.symm,HBE.out⟩
   · have e2: ((proc:Int) == m.claim)=false:=by simp [hcl]
     obtain ⟨x,hget⟩:∃x,m.procs[proc]? =some x:=⟨_,List.getElem?_eq_getElem hproc⟩;obtain ⟨g,off,ho,hg,he⟩:=HKW.out.md.procs.get hget;obtain ⟨fo,fc,f2,fr⟩:=he.frame;have hfl:=fr.1;rw [ho] at c4;have HZ:Hid (liesB m proc v=decide (reachL v≤ (x.frame.length:Int))):=Lib.hid (by rw [HV.out,decide_eq_false (by rintro ⟨_,h2⟩;exact hcl h2),show roomL m proc v= (x.frame.length:Int) from by unfold roomL;rw [if_pos s1,frameAt_get rfl hget]];rfl);clear s1 hcl hty hin hk hcs cs he hget fr ho;go_enter Tryd.func79,Tryd.ntmps79;go_wp2_with fail;refine HCR.out.mono ?_;rintro e w' ⟨rfl,hbe⟩;have HBE:=Lib.hid hbe;clear hbe;go_wp2_with fail;go_ret;exact ⟨retB HZ.out.symm,HBE.out⟩
 · have e1: (v.scope == 1)=false:=by simp [s1]
   by_cases s2:v.scope=2
   · have e2: (v.scope == 2)=true:=by simp [s2]
     have ht:0≤v.type∧v.type < m.procs.length:=by
      have:=hty s2;unfold ptypeB at this;rw [decide_eq_true_eq] at this;exact ⟨this.1,this.2.1⟩
     obtain ⟨k,hkt⟩:∃k:Nat,v.type=k:=⟨v.type.toNat,by omega⟩;have hkl:k < m.procs.length:=by omega
     obtain ⟨x,hget⟩:∃x,m.procs[k]? =some x:=⟨_,List.getElem?_eq_getElem hkl⟩;obtain ⟨g,off,ho,hg,he⟩:=HKW.out.md.procs.get hget;obtain ⟨fo,fc,f2,fr⟩:=he.frame;have hfl:=fr.1;have HZ:Hid (liesB m proc v=decide (reachL v≤ (x.frame.length:Int))):=Lib.hid (by rw [HV.out,decide_eq_false (by rintro ⟨h2,_⟩;exact s1 h2),show roomL m proc v= (x.frame.length:Int) from by unfold roomL;rw [if_neg s1,if_pos s2,frameAt_get hkt hget]];rfl);have hk1: (k:Int) < m.procs.length:=by omega
     have hk0: (0:Int)≤k:=by omega
     rw [ho] at c4;clear s1 s2 hty hin hk hcs cs he hget fr ho ht HV;go_enter Tryd.func79,Tryd.ntmps79;have HCR2:Hid (∀n,Calls Tryd.prog 95 #[.agg #[.int .i64 v.scope,.int .i64 v.slot,.int .i64 v.who,.int .i64 v.type,.slice o v.dims.length cap]] ((w.alloc (Obj.cells #[.int .i64 v.scope,.int .i64 v.slot,.int .i64 v.who,.int .i64 v.type,.slice o v.dims.length cap] 121)).drewN n) fun e w'=>e= .returned (.int .i64 (reachL v))∧Below w.heap.size w w'):=Lib.hid fun n=>
      ((reachC v o cap B _ (HIN.out.mono fun _ _ _ hg=>dimAt.below (bdrew (ball _) n) (by omega)) (by have:=HX.out.bel.size;exact Nat.le_trans hB this)).mono fun _ _ ⟨h1,h2⟩=>⟨h1,(HBD.out n).trans (h2.mono HX.out.bel.size)⟩)
     clear HCR HBD;rw [hkt] at HCR2 c0 c4 c5 b0 b3 f2 HX HKW ⊢;go_wp2_with fail;go_quiet (fail);go_wp2_with fail;refine (HCR2.out _).mono ?_;rintro e w' ⟨rfl,hbe⟩;have HBE:=Lib.hid hbe;clear hbe;go_wp2_with fail;go_ret;exact ⟨retB HZ.out.symm,HBE.out⟩
   · have e2: (v.scope == 2)=false:=by simp [s2]
     have HZ:Hid (liesB m proc v=decide (reachL v≤ (m.globals.length:Int))):=Lib.hid (by rw [HV.out,decide_eq_false (by rintro ⟨h2,_⟩;exact s1 h2),show roomL m proc v= (m.globals.length:Int) from by unfold roomL;rw [if_neg s1,if_neg s2]];rfl);have hgl:=HK.out.md.globals.1;clear s1 s2 hty hin hk hcs cs HV;go_enter Tryd.func79,Tryd.ntmps79;go_wp2_with fail;refine HCR.out.mono ?_;rintro e w' ⟨rfl,hbe⟩;have HBE:=Lib.hid hbe;clear hbe;go_wp2_with fail;go_ret;exact ⟨retB HZ.out.symm,HBE.out⟩
end Go.Proofs.YtnoibjahliafpaaDoor
