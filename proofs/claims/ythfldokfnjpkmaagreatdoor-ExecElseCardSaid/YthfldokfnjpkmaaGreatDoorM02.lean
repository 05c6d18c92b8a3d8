/- The checker's small questions. -/
import Derived.Test.YthfldokfnjpkmaaGreatDoorM01
import Derived.StillTailTactics
import Derived.BigQuiet
set_option linter.unusedVariables false
set_option linter.unusedSimpArgs false
namespace Go.Proofs.YthfldokfnjpkmaaGreatDoor
open Go.ChangeShapes Go.WideShapes Go.ChangeAt Go.RowKit
theorem partsOfC (op:Int) (w:World):Calls Tryz.prog 192 #[.int .i64 op] w fun e w'=>e= .returned (.int .i64 (partsOf op))∧w=w':=by
 have HP:Hid (∀n:Nat,partsOf op=n→ ((partsOf op:Nat):Int)=n):=Lib.hid fun n h=>by rw [h]
 go_enter Tryz.func192,Tryz.ntmps192;go_wp2
 all_goals (go_ret;refine ⟨retI ?_,rfl⟩)
 all_goals (unfold partsOf;repeat' split)
 all_goals first | rfl | omega | (exfalso;simp only [beq_iff_eq,beq_eq_false_iff_ne,ne_eq] at*;omega)
theorem proctypeC {B p:Nat} {h:MH} {m:ModelD} (n:Int) (w:World) (hk:Ck B w p h m):Calls Tryz.prog 195 #[.pointer (some ⟨p,0,none⟩),.int .i64 n] w fun e w'=>e= .returned (.bool (ptypeB m n))∧w=w':=by
 have c4:=hk.c4;have c5:=hk.c5;have hl:=hk.md.procs.1;clear hk;go_enter Tryz.func195,Tryz.ntmps195;go_wp2
 all_goals (go_ret;refine ⟨retB ?_,rfl⟩)
 all_goals (unfold ptypeB;rw [Bool.eq_iff_iff];simp_all)
 all_goals omega
theorem isExprC {B p:Nat} {h:MH} {m:ModelD} (n:Int) (w:World) (hk:Ck B w p h m):Calls Tryz.prog 207 #[.pointer (some ⟨p,0,none⟩),.int .i64 n] w fun e w'=>e= .returned (.bool (isExprB m n))∧w=w':=by
 have c6:=hk.c6;have hl:=hk.md.exprs.1;clear hk;go_enter Tryz.func207,Tryz.ntmps207;go_wp2
 all_goals (go_ret;refine ⟨retB ?_,rfl⟩)
 all_goals (unfold isExprB;rw [Bool.eq_iff_iff];simp_all)
 all_goals omega
theorem opAt_get {m:ModelD} {n:Int} {x:ExprD} (h:m.exprs[n.toNat]? =some x):opAt m n=x.op:=by unfold opAt;rw [h];rfl
theorem isVarC {B p:Nat} {h:MH} {m:ModelD} (n:Int) (w:World) (hk:Ck B w p h m):Calls Tryz.prog 208 #[.pointer (some ⟨p,0,none⟩),.int .i64 n] w fun e w'=>e= .returned (.bool (isVarB m n))∧w=w':=by
 have HK:=Lib.hid hk;have c6:=hk.c6;have hl:=hk.md.exprs.1;clear hk;cases hx:isExprB m n
 · have hv:isVarB m n=false:=by unfold isVarB;rw [hx];rfl
   have HV:=Lib.hid hv;have HX:=Lib.hid hx;clear hv hx;go_enter Tryz.func208,Tryz.ntmps208;go_wp2_with fail;refine (isExprC n w HK.out).mono ?_;rintro e w' ⟨rfl,rfl⟩;rw [HX.out];go_wp2;go_ret;exact ⟨retB HV.out.symm,rfl⟩
 · have hb:0≤n∧n < m.exprs.length:=by unfold isExprB at hx;simpa using hx
   obtain ⟨k,rfl⟩:∃k:Nat,n=k:=⟨n.toNat,by omega⟩;have hk:k < m.exprs.length:=by omega
   obtain ⟨g,off,ho,hg,he⟩:=HK.out.md.exprs.cell hk;have hv:isVarB m (k:Int)=decide (m.exprs[k].op=2):=by
    unfold isVarB;rw [hx,opAt_get (x:=m.exprs[k]) (by rw [Int.toNat_natCast];exact List.getElem?_eq_getElem hk)];rfl
   have HV:=Lib.hid hv;have HX:=Lib.hid hx;have c0:=he.c0;obtain ⟨op,hop⟩:∃op,m.exprs[k].op=op:=⟨_,rfl⟩;rw [hop] at c0 HV;rw [ho] at c6;have h1: (k:Int) < m.exprs.length:=by omega
   clear hv hx hb he ho hop;go_enter Tryz.func208,Tryz.ntmps208;go_wp2_with fail;refine (isExprC k w HK.out).mono ?_;rintro e w' ⟨rfl,rfl⟩;rw [HX.out];go_wp2
   all_goals (go_ret;refine ⟨retB ?_,rfl⟩)
   all_goals (rw [HV.out])
   all_goals (rw [Bool.eq_iff_iff];simp)
end Go.Proofs.YthfldokfnjpkmaaGreatDoor
namespace Go.Proofs.YthfldokfnjpkmaaGreatDoor
open Go.ChangeShapes Go.WideShapes Go.ChangeAt Go.RowKit
structure Bx (w:World) (cs:Array Value) (T:TypeId) (W:World):Prop where
 box:W.heap[w.heap.size]? =some (.cells cs T (0,0))
 bel:Below w.heap.size w W
theorem Bx.new (w:World) (cs:Array Value) (T:TypeId):Bx w cs T (w.alloc (.cells cs T)):=⟨heap_alloc_new w _,ball _⟩
theorem Bx.below {w W W':World} {cs:Array Value} {T:TypeId} (h:Bx w cs T W) (hb:Below W.heap.size W W'):Bx w cs T W':=⟨(hb.block _ (lt_of_block h.box)).trans h.box,h.bel.trans (hb.mono h.bel.size)⟩
theorem Bx.cell {w W:World} {cs:Array Value} {T:TypeId} (h:Bx w cs T W) {i:Nat} {v:Value} (hv:cs[i]? =some v):W.cell? ⟨w.heap.size,i,none⟩=some v:=(cell_of_row _ _ _ _ _ _ h.box).trans hv
theorem Ck.bx {B p:Nat} {w W:World} {h:MH} {m:ModelD} {cs:Array Value} {T:TypeId} (hk:Ck B w p h m) (hx:Bx w cs T W):Ck B W p h m:=hk.below hx.bel
set_option maxRecDepth 100000 in
theorem variableC {B p:Nat} {h:MH} {m:ModelD} (v:VarD) (o:Option Addr) (cap:Nat) (w:World) (hk:Ck B w p h m) (hin:Row B o 3 (dimAt w) v.dims):
 Calls Tryz.prog 193 #[.pointer (some ⟨p,0,none⟩),.agg #[.int .i64 v.scope,.int .i64 v.slot,.int .i64 v.who,.int .i64 v.type,.slice o v.dims.length cap]] w fun e w'=>e= .returned (.bool (varB m v))∧Below w.heap.size w w':=by
 have HK:=Lib.hid hk;have HIN:=Lib.hid hin;have hn:v.dims.length≤140737488355328:=hin.1;have HX:=Lib.hid (Bx.new w #[.int .i64 v.scope,.int .i64 v.slot,.int .i64 v.who,.int .i64 v.type,.slice o v.dims.length cap] 142);clear hin hk;obtain ⟨sc,sl,wh,ty,dims⟩:=v;simp only at HIN hn HX ⊢;by_cases hbad:sc < 0∨2 < sc∨sl < 0∨128 < sl∨4 < dims.length
 · have hv:varB m ⟨sc,sl,wh,ty,dims⟩=false:=by unfold varB varHeadB;rw [decide_eq_true (by exact hbad)];rfl
   have HV:=Lib.hid hv;clear hv;go_enter Tryz.func193,Tryz.ntmps193;go_wp2
   all_goals first | (exfalso;omega) | (go_ret;exact ⟨retB HV.out.symm,HX.out.bel⟩)
 · have hv:varB m ⟨sc,sl,wh,ty,dims⟩= (dims.all dimB && varTailB m ⟨sc,sl,wh,ty,dims⟩):=by unfold varB varHeadB;rw [decide_eq_false (by exact hbad)];simp
   have HV:=Lib.hid hv;clear hv;have h1:¬sc < 0:=fun h=>hbad (.inl h)
   have h2:¬2 < sc:=fun h=>hbad (.inr (.inl h))
   have h3:¬sl < 0:=fun h=>hbad (.inr (.inr (.inl h)))
   have h4:¬128 < sl:=fun h=>hbad (.inr (.inr (.inr (.inl h))))
   have h5:¬4 < dims.length:=fun h=>hbad (.inr (.inr (.inr (.inr h))))
   clear hbad;go_enter Tryz.func193,Tryz.ntmps193;go_wp2
   go_loopw [34] (fun i wr=>∃ (k:Nat),i= .int .i64 k∧k≤dims.length∧Hid (∀j (hj:j < dims.length),j < k→dimB dims[j]=true)∧Hid (Bx w #[.int .i64 sc,.int .i64 sl,.int .i64 wh,.int .i64 ty,.slice o dims.length cap] 142 wr)) (fun i _=>dims.length - (intOf i).toNat)
   case atStart=>exact ⟨0,rfl,by omega,Lib.hid fun j _ h=>by omega,HX⟩
   case round=>
    obtain ⟨k,rfl,hk,HD,HB⟩:=hrel;have hk0: (0:Int)≤k:=by omega
    have hsz:=HB.out.bel.size;by_cases hlt:k < dims.length
    · have hlti: (k:Int) < dims.length:=by omega
      obtain ⟨g,off,rfl,hg,e0,e1,e2⟩:=HIN.out.cell hlt;have hgw:g < w.heap.size:=by have:=HK.out.le;have:=HK.out.lt;omega
      obtain ⟨⟨I,L,S⟩,hd⟩:∃d,dims[k]=d:=⟨_,rfl⟩;rw [hd] at e0 e1 e2;simp only at e0 e1 e2;have c0:=(HB.out.bel.cell (p:=⟨g,off+k*3,none⟩) hgw).trans e0;have c1:=(HB.out.bel.cell (p:=⟨g,off+k*3+1,none⟩) hgw).trans e1;have c2:=(HB.out.bel.cell (p:=⟨g,off+k*3+2,none⟩) hgw).trans e2;have HDD:=Lib.hid hd;clear e0 e1 e2 hd;have HB1:∀o,Hid (Bx w #[.int .i64 sc,.int .i64 sl,.int .i64 wh,.int .i64 ty,.slice (some ⟨g,off,none⟩) dims.length cap] 142 (wr.alloc o)):=fun o=>Lib.hid (HB.out.below (ball o))
      have HBB:=Lib.hid HB1;clear HB1;by_cases hb:L < 1∨128 < L∨S < 0∨128 < S
      · have HZ:Hid (varB m ⟨sc,sl,wh,ty,dims⟩=false):=Lib.hid (by rw [HV.out,all_bad hlt (by rw [HDD.out];unfold dimB;rw [decide_eq_true (by exact hb)];rfl)];rfl);go_wp2
        all_goals first | (exfalso;omega) | (go_ret;exact ⟨retB HZ.out.symm,(HBB.out _).out.bel⟩)
      · have i1:¬L < 1:=fun h=>hb (.inl h)
        have i2:¬128 < L:=fun h=>hb (.inr (.inl h))
        have i3:¬S < 0:=fun h=>hb (.inr (.inr (.inl h)))
        have i4:¬128 < S:=fun h=>hb (.inr (.inr (.inr h)))
        have HDK:Hid (dimB dims[k]=true):=Lib.hid (by rw [HDD.out];unfold dimB;rw [decide_eq_false (by exact hb)];rfl);clear hb;go_wp2;go_roundw;case rel=>exact ⟨k+1,by go_num,by omega,Lib.hid fun j hj hjk=>by
         by_cases e:j=k
         · subst e;exact HDK.out
         · exact HD.out j hj (by omega),HBB.out _⟩
        case measure=>simp [intOf];omega
    · have hlti:¬ (k:Int) < dims.length:=by omega
      have HA:Hid (varB m ⟨sc,sl,wh,ty,dims⟩=varTailB m ⟨sc,sl,wh,ty,dims⟩):=Lib.hid (by rw [HV.out,all_of fun j hj=>HD.out j hj (by omega)];rfl);have c0:wr.cell? ⟨w.heap.size,0,none⟩=some (.int .i64 sc):=HB.out.cell rfl;have c2:wr.cell? ⟨w.heap.size,2,none⟩=some (.int .i64 wh):=HB.out.cell rfl;have c3:wr.cell? ⟨w.heap.size,3,none⟩=some (.int .i64 ty):=HB.out.cell rfl;have HKR:=Lib.hid (HK.out.bx HB.out);have HBE:=Lib.hid HB.out.bel;by_cases hr:sc=2
      · have HT:Hid (varTailB m ⟨sc,sl,wh,ty,dims⟩=ptypeB m ty):=Lib.hid (if_pos hr);have hr1: (sc == 2)=true:=by simp [hr]
        clear hr;go_wp2_with fail;refine (proctypeC ty wr HKR.out).mono ?_;rintro e w' ⟨rfl,rfl⟩;go_wp2_with fail;go_ret;exact ⟨retB (by rw [HA.out,HT.out]),HBE.out⟩
      · have HT:Hid (varTailB m ⟨sc,sl,wh,ty,dims⟩=decide (wh= -1∧ty= -1)):=Lib.hid (if_neg hr);have hr1: (sc == 2)=false:=by simp [hr]
        clear hr;by_cases hw:wh= -1
        · by_cases ht:ty= -1
          · have HF:Hid (varB m ⟨sc,sl,wh,ty,dims⟩=true):=Lib.hid (by rw [HA.out,HT.out];simp [hw,ht]);have hw1: (wh == -1)=true:=by simp [hw]
            have ht1: (ty == -1)=true:=by simp [ht]
            clear hw ht HA HT;go_wp2_with fail;go_ret;exact ⟨retB HF.out.symm,HBE.out⟩
          · have HF:Hid (varB m ⟨sc,sl,wh,ty,dims⟩=false):=Lib.hid (by rw [HA.out,HT.out];simp [ht]);have hw1: (wh == -1)=true:=by simp [hw]
            have ht1: (ty == -1)=false:=by simp [ht]
            clear hw ht HA HT;go_wp2_with fail;go_ret;exact ⟨retB HF.out.symm,HBE.out⟩
        · have HF:Hid (varB m ⟨sc,sl,wh,ty,dims⟩=false):=Lib.hid (by rw [HA.out,HT.out];simp [hw]);have hw1: (wh == -1)=false:=by simp [hw]
          clear hw HA HT;go_wp2_with fail;go_ret;exact ⟨retB HF.out.symm,HBE.out⟩
set_option maxHeartbeats 1000000 in
set_option maxRecDepth 100000 in
theorem fieldsC {B p:Nat} {h:MH} {m:ModelD} (args mat:List Int) (o1 o2:Option Addr) (cap1 cap2:Nat) (w:World) (hk:Ck B w p h m) (h1:Row B o1 1 (intAt w) args) (h2:Row B o2 1 (intAt w) mat):
 Calls Tryz.prog 194 #[.pointer (some ⟨p,0,none⟩),.slice o1 args.length cap1,.slice o2 mat.length cap2] w fun e w'=>e= .returned (.bool (fieldsB m args mat))∧w=w':=by
 have HK:=Lib.hid hk;have H1:=Lib.hid h1;have H2:=Lib.hid h2;have n1:=h1.1;have n2:=h2.1;clear h1 h2 hk;by_cases hbad:args.length < 1∨8 < args.length∨mat.length≠args.length
 · have hv:fieldsB m args mat=false:=by unfold fieldsB;rw [decide_eq_true (by exact hbad)];rfl
   have HV:=Lib.hid hv;clear hv;by_cases hd:args.length < 1∨8 < args.length
   · clear hbad;go_enter Tryz.func194,Tryz.ntmps194;go_wp2
     all_goals first | (exfalso;omega) | (go_ret;exact ⟨retB HV.out.symm,rfl⟩)
   · have h3:¬args.length < 1:=fun h=>hd (.inl h)
     have h4:¬8 < args.length:=fun h=>hd (.inr h)
     have h5: ((mat.length:Int) != (args.length:Int))=true:=by rw [bne_iff_ne];omega
     clear hd hbad;go_enter Tryz.func194,Tryz.ntmps194;go_wp2
     all_goals first | (exfalso;omega) | (go_ret;exact ⟨retB HV.out.symm,rfl⟩)
 · have HV:Hid (fieldsB m args mat= (args.zip mat).all (fieldB m)):=Lib.hid (by unfold fieldsB;rw [decide_eq_false (by exact hbad)];simp);have h3:¬args.length < 1:=fun h=>hbad (.inl h)
   have h4:¬8 < args.length:=fun h=>hbad (.inr (.inl h))
   have HL:Hid (mat.length=args.length):=Lib.hid (by omega);have h5: ((mat.length:Int) != (args.length:Int))=false:=by simp;omega
   have h6: (mat.length:Int)≤args.length:=by omega
   have h7: (args.length:Int)≤mat.length:=by omega
   clear hbad;go_enter Tryz.func194,Tryz.ntmps194;go_wp2
   go_loop [26] (fun i=>∃ (k:Nat),i= .int .i64 k∧k≤args.length∧Hid (∀j (hj:j < (args.zip mat).length),j < k→fieldB m (args.zip mat)[j]=true)) (fun i=>args.length - (intOf i).toNat)
   case atStart=>exact ⟨0,rfl,by omega,Lib.hid fun j _ h=>by omega⟩
   case round=>
    obtain ⟨k,rfl,hk,HD⟩:=hrel;have hk0: (0:Int)≤k:=by omega
    by_cases hlt:k < args.length
    · have hlti: (k:Int) < args.length:=by omega
      have hltm:k < mat.length:=by have:=HL.out;omega
      have hltmi: (k:Int) < mat.length:=by omega
      obtain ⟨g,off,rfl,hg,e0⟩:=H1.out.cell hlt;obtain ⟨g2,off2,rfl,hg2,e2⟩:=H2.out.cell hltm;have hz:k < (args.zip mat).length:=by rw [List.length_zip];omega
      have HZ:Hid ((args.zip mat)[k]= (args[k],mat[k])):=Lib.hid List.getElem_zip;obtain ⟨x,hx⟩:∃x,args[k]=x:=⟨_,rfl⟩;obtain ⟨q,hq⟩:∃q,mat[k]=q:=⟨_,rfl⟩;rw [hx,hq] at HZ;have c0:w.cell? ⟨g,off+k,none⟩=some (.int .i64 x):=by have:=e0;unfold intAt at this;rw [Nat.mul_one,hx] at this;exact this
      have c2:w.cell? ⟨g2,off2+k,none⟩=some (.int .i64 q):=by have:=e2;unfold intAt at this;rw [Nat.mul_one,hq] at this;exact this
      have HZL:=Lib.hid hz;have HBAD:Hid (fieldB m (x,q)=false→fieldsB m args mat=false):=Lib.hid fun h=>by rw [HV.out,all_bad hz (by rw [HZ.out];exact h)]
      have HGO:Hid (fieldB m (x,q)=true→∀j (hj:j < (args.zip mat).length),j < k+1→fieldB m (args.zip mat)[j]=true):=Lib.hid fun h j hj hjk=>by
       by_cases e:j=k
       · subst e;rw [HZ.out];exact h
       · exact HD.out j hj (by omega)
      clear e0 e2 hz hx hq hg hg2 HZ;go_wp2_with fail;refine (isExprC x w HK.out).mono ?_;rintro e w' ⟨rfl,rfl⟩;obtain ⟨b1,hb1⟩:∃b,isExprB m x=b:=⟨_,rfl⟩;rw [hb1];have HE:=Lib.hid hb1;clear hb1;cases b1
      · have HF:=Lib.hid (HBAD.out (by unfold fieldB;rw [HE.out];rfl));go_wp2_with fail;go_ret;exact ⟨retB HF.out.symm,rfl⟩
      · by_cases hq: -1≤q∧q≤1
        · have hq1:¬q < -1:=by omega
          have hq2:¬1 < q:=by omega
          by_cases hq0:q=0
          · have hq3: (q == 0)=true:=by simp [hq0]
            have HQ:=Lib.hid (And.intro hq hq0);clear hq hq0;go_wp2_with fail;refine (isVarC x w HK.out).mono ?_;rintro e w' ⟨rfl,rfl⟩;obtain ⟨b2,hb2⟩:∃b,isVarB m x=b:=⟨_,rfl⟩;rw [hb2];have HE2:=Lib.hid hb2;clear hb2;cases b2
            · have HF:=Lib.hid (HBAD.out (by unfold fieldB;rw [HE.out,HE2.out];simp [HQ.out.2]));go_wp2_with fail;go_ret;exact ⟨retB HF.out.symm,rfl⟩
            · have HF:=Lib.hid (HGO.out (by unfold fieldB;rw [HE.out,HE2.out];simp [HQ.out.2]));go_wp2_with fail;go_round;case rel=>exact ⟨k+1,by go_num,by omega,HF⟩
              case measure=>simp [intOf];omega
          · have hq3: (q == 0)=false:=by simp [hq0]
            have HF:=Lib.hid (HGO.out (by unfold fieldB;rw [HE.out];simp [hq0];exact hq));clear hq hq0;go_wp2_with fail;go_round;case rel=>exact ⟨k+1,by go_num,by omega,HF⟩
            case measure=>simp [intOf];omega
        · have HF:=Lib.hid (HBAD.out (by unfold fieldB;rw [HE.out,decide_eq_false (by exact hq)];simp));go_wp2_with fail
          all_goals first | (exfalso;omega) | (go_ret;exact ⟨retB HF.out.symm,rfl⟩)
    · have hlti:¬ (k:Int) < args.length:=by omega
      have HF:Hid (fieldsB m args mat=true):=Lib.hid (by rw [HV.out];exact all_of fun j hj=>HD.out j hj (by rw [List.length_zip] at hj;omega));go_wp2_with fail;go_ret;exact ⟨retB HF.out.symm,rfl⟩
end Go.Proofs.YthfldokfnjpkmaaGreatDoor
namespace Go.Proofs.YthfldokfnjpkmaaGreatDoor
open Go.ChangeShapes Go.WideShapes Go.ChangeAt Go.RowKit
theorem zip_get2 {α β:Type} {a:List α} {b:List β} {k:Nat} (h1:k < a.length) (h2:k < b.length):∃hz:k < (a.zip b).length,(a.zip b)[k]= (a[k],b[k]):=⟨by rw [List.length_zip];omega,by simp⟩
set_option maxHeartbeats 2000000 in
set_option maxRecDepth 100000 in
theorem sfitsC {B:Nat} (t:List (Int × Bool)) (l:List Int) (o1 o2:Option Addr) (p1 p2:Nat) (w:World) (hB:B≤w.heap.size) (h1:Row B o1 2 (tyAt w) t) (h2:Row B o2 1 (intAt w) l):
 Calls Tryz.prog 104 #[.slice o1 t.length p1,.slice o2 l.length p2] w fun e w'=>e= .returned (.bool (fitsL t l))∧Below w.heap.size w w':=by
 have HR:=Lib.hid (And.intro h1 h2);have l1:=h1.1;have l2:=h2.1;clear h1 h2;by_cases hne:l.length=t.length
 · have HV:Hid (fitsL t l= (t.zip l).all fitZ):=Lib.hid (by unfold fitsL;rw [decide_eq_true hne];rfl);have hnb: ((l.length:Int) != (t.length:Int))=false:=by rw [bne_eq_false_iff_eq];omega
   have HNE:=Lib.hid hne;have m1: (l.length:Int)≤t.length:=by omega
   have m2: (t.length:Int)≤l.length:=by omega
   clear hne;go_enter Tryz.func104,Tryz.ntmps104;go_wp2_with fail
   go_loopw [14] (fun iv W=>∃i:Nat,iv= .int .i64 i∧i≤t.length∧Hid (∀j (hj:j < (t.zip l).length),j < i→fitZ (t.zip l)[j]=true)∧Hid (Below w.heap.size w W)) (fun iv _=>t.length - (intOf iv).toNat)
   case atStart=>exact ⟨0,rfl,by omega,Lib.hid fun j _ h=>by omega,Lib.hid (Below.refl _ _)⟩
   case round=>
    obtain ⟨i,rfl,hi,HJ,HB⟩:=hrel;have hi0: (0:Int)≤i:=by omega
    by_cases hlt:i < t.length
    · have hlti: (i:Int) < t.length:=by omega
      have hlt2:i < l.length:=by have:=HNE.out;omega
      have hlti2: (i:Int) < l.length:=by omega
      obtain ⟨g1,off1,ho1,hg1,t0,t1⟩:=(HR.out.1.mono fun _ _ _ hg=>tyAt.below (HB.out.mono hB) hg).cell hlt;obtain ⟨g2,off2,ho2,hg2,e2⟩:=(HR.out.2.mono fun _ _ _ hg=>intAt.below (HB.out.mono hB) hg).cell hlt2;subst ho1 ho2;obtain ⟨⟨b,sg⟩,hbs⟩:∃q,t[i]=q:=⟨_,rfl⟩;obtain ⟨v,hv⟩:∃q,l[i]=q:=⟨_,rfl⟩;obtain ⟨hz,hzip⟩:=zip_get2 hlt hlt2;rw [hbs,hv] at hzip;rw [hbs] at t0 t1;have HBAD:Hid (fitB b sg v=false→fitsL t l=false):=Lib.hid fun h=>by rw [HV.out,all_bad hz (by rw [hzip];exact h)]
      have HGO:Hid (fitB b sg v=true→∀j (hj:j < (t.zip l).length),j < i+1→fitZ (t.zip l)[j]=true):=Lib.hid fun h j hj hjk=>by
       by_cases e:j=i
       · subst e;rw [hzip];exact h
       · exact HJ.out j hj (by omega)
      have e3:wr.cell? ⟨g2,off2+i,none⟩=some (.int .i64 v):=by
       have:=e2;unfold intAt at this;rw [Nat.mul_one,hv] at this;exact this
      have hc1:=Lib.cell?_alloc_some (Obj.cells #[.int .i64 b,.bool sg] 138) e3;simp only at t0 t1;have HX:=Lib.hid (Bx.new wr #[.int .i64 b,.bool sg] 138);have HB1:=Lib.hid (HB.out.trans ((ball (Obj.cells #[.int .i64 b,.bool sg] 138)).mono HB.out.size));clear hbs hv e2 hz hzip;go_wp2_with fail;generalize wr.alloc (Obj.cells #[.int .i64 b,.bool sg] 138)=W at hc1 HX HB1 ⊢;have x1:W.cell? ⟨wr.heap.size,0,none⟩=some (.int .i64 b):=HX.out.cell rfl;have x2:W.cell? ⟨wr.heap.size,1,none⟩=some (.bool sg):=HX.out.cell rfl;go_still_tail 5,(by kernel_rfl);change wpList _ _ _ _ _ W.drew;have HB2:Hid (Below w.heap.size w W.drew):=Lib.hid HB1.out.drew;generalize W.drew=W2 at HB2 ⊢;clear x1 x2 hc1 t0 t1 e3;go_wp2_with fail;refine (fitsC b sg v W2).mono ?_;rintro e W3 ⟨rfl,hb3⟩;have HB3:=Lib.hid (HB2.out.trans (hb3.mono HB2.out.size));clear hb3;obtain ⟨u,hu⟩:∃u,fitB b sg v=u:=⟨_,rfl⟩;rw [hu];have HU:=Lib.hid hu;clear hu;cases u
      · have HZ:=Lib.hid (HBAD.out HU.out);go_wp2_with fail;go_ret;exact ⟨retB HZ.out.symm,HB3.out⟩
      · have HZ:=Lib.hid (HGO.out HU.out);go_wp2_with fail;go_roundw;case rel=>exact ⟨i+1,by go_num,by omega,HZ,HB3⟩
        case measure=>simp [intOf];omega
    · have hlti:¬ (i:Int) < t.length:=by omega
      have HA:Hid (fitsL t l=true):=Lib.hid (by rw [HV.out];exact all_of fun j hj=>HJ.out j hj (by rw [List.length_zip] at hj;omega));go_wp2_with fail;go_ret;exact ⟨retB HA.out.symm,HB.out⟩
 · have HV:Hid (fitsL t l=false):=Lib.hid (by unfold fitsL;rw [decide_eq_false hne];rfl);have hnb: ((l.length:Int) != (t.length:Int))=true:=by rw [bne_iff_ne];omega
   clear hne;go_enter Tryz.func104,Tryz.ntmps104;go_wp2_with fail;go_ret;exact ⟨retB HV.out.symm,Below.refl _ _⟩
end Go.Proofs.YthfldokfnjpkmaaGreatDoor
namespace Go.Proofs.YthfldokfnjpkmaaGreatDoor
open Go.ChangeShapes Go.WideShapes Go.ChangeAt Go.RowKit
set_option maxHeartbeats 4000000 in
set_option maxRecDepth 100000 in
theorem chanMayC {B pm g a:Nat} {h:MH} {m:ModelD} {c:ChanD} (w:World) (hk:Ck B w pm h m) (hc:chanAt B w g a c) (hg:g < B):
 Calls Tryz.prog 105 #[.pointer (some ⟨pm,0,none⟩),.pointer (some ⟨g,a,none⟩)] w fun e w'=>e= .returned (.bool (chanMayB m c))∧Below w.heap.size w w':=by
 have HK:=Lib.hid hk;have HC:=Lib.hid hc;have hB:B≤w.heap.size:=by have:=hk.le;have:=hk.lt;omega
 have c2:=hk.c2;have q0:=hc.c0;obtain ⟨qo,qc,q1,hq⟩:=hc.queue;have HQ:=Lib.hid hq;have hql:=hq.1;have hsl:=hk.md.shapes.1;clear hk hc hq;by_cases s0:c.shape < 0
 · have d0:decide (c.shape < 0)=true:=decide_eq_true s0;have HV:Hid (chanMayB m c=false):=Lib.hid (by unfold chanMayB chanHeadB;rw [decide_eq_false (by omega)];rfl);clear s0;go_enter Tryz.func105,Tryz.ntmps105;go_wp2_with fail;go_quiet (fail);go_wp2_with fail;go_ret;exact ⟨retB HV.out.symm,bdrew (Below.refl _ _) _⟩
 · have d0:decide (c.shape < 0)=false:=decide_eq_false s0;by_cases s1: (m.shapes.length:Int)≤c.shape
   · have d1:decide ((m.shapes.length:Int)≤c.shape)=true:=decide_eq_true s1;have HV:Hid (chanMayB m c=false):=Lib.hid (by unfold chanMayB chanHeadB;rw [decide_eq_false (by omega)];rfl);clear s0 s1;go_enter Tryz.func105,Tryz.ntmps105;go_wp2_with fail;go_quiet (fail);go_wp2_with fail;go_ret;exact ⟨retB HV.out.symm,bdrew (Below.refl _ _) _⟩
   · have d1:decide ((m.shapes.length:Int)≤c.shape)=false:=decide_eq_false s1;obtain ⟨k,hk⟩:∃k:Nat,c.shape=k:=⟨c.shape.toNat,by omega⟩;rw [hk] at q0 d0 d1;have hkl:k < m.shapes.length:=by omega
     have d1n:decide (m.shapes.length≤k)=false:=decide_eq_false (by omega);have hki: (k:Int) < m.shapes.length:=by omega
     have hkz: (0:Int)≤k:=by omega
     obtain ⟨s,hs⟩:∃s,m.shapes[k]? =some s:=⟨_,List.getElem?_eq_getElem hkl⟩;have HV:Hid (chanMayB m c= (decide ((c.queue.length:Int)≤s.room) && c.queue.all (fitsL s.fields))):=Lib.hid (by unfold chanMayB chanHeadB chanFB;rw [hk,decide_eq_true (by omega),Int.toNat_natCast,hs];rfl);obtain ⟨g3,off3,ho3,hg3,hsa⟩:=HK.out.md.shapes.get hs;have r0:=hsa.c0;rw [ho3] at c2;obtain ⟨fo,fc,r1,hf⟩:=hsa.fields;have HF:=Lib.hid hf;clear hf hsa ho3 hs hk s0 s1;by_cases s2:s.room < (c.queue.length:Int)
     · have d2:decide (s.room < (c.queue.length:Int))=true:=decide_eq_true s2;have HZ:Hid (chanMayB m c=false):=Lib.hid (by rw [HV.out,decide_eq_false (by omega)];rfl);clear s2;go_enter Tryz.func105,Tryz.ntmps105;go_wp2_with fail;go_quiet (fail);go_wp2_with fail;go_ret;exact ⟨retB HZ.out.symm,bdrew (Below.refl _ _) _⟩
     · have d2:decide (s.room < (c.queue.length:Int))=false:=decide_eq_false s2;have HZ:Hid (chanMayB m c=c.queue.all (fitsL s.fields)):=Lib.hid (by rw [HV.out,decide_eq_true (by omega)];rfl);clear s2;have HCE:Hid (∀W,Below w.heap.size w W→W.cell? ⟨pm,2,none⟩=some (.slice (some ⟨g3,off3,none⟩) m.shapes.length h.sc)∧W.cell? ⟨g,a,none⟩=some (.int .i64 k)∧W.cell? ⟨g,a+1,none⟩=some (.slice qo c.queue.length qc)∧W.cell? ⟨g3,off3+k*2+1,none⟩=some (.slice fo s.fields.length fc)∧Row B fo 2 (tyAt W) s.fields∧Row B qo 1 (msgAt B W) c.queue):=Lib.hid fun W hb=>
        ⟨(hb.cell HK.out.lt).trans c2,(hb.cell (by show g < _;omega)).trans q0,(hb.cell (by show g < _;omega)).trans q1,(hb.cell (by show g3 < _;omega)).trans r1,HF.out.mono fun _ _ _ hg=>tyAt.below (hb.mono hB) hg,HQ.out.mono fun _ _ _ hg=>msgAt.below (hb.mono hB) hg⟩
       go_enter Tryz.func105,Tryz.ntmps105;go_wp2_with fail;go_quiet (fail);have HB0:Hid (Below w.heap.size w (w.drewN nq)):=Lib.hid (bdrew (Below.refl _ _) nq);generalize w.drewN nq=W0 at HB0 ⊢;clear c2 q0 q1 r0 r1 d0 d1 d2 d1n;have q1:=(HCE.out _ HB0.out).2.2.1;go_wp2_with fail;clear q1
       go_loopw [48] (fun iv W=>∃i:Nat,iv= .int .i64 i∧i≤c.queue.length∧Hid (∀j (hj:j < c.queue.length),j < i→fitsL s.fields c.queue[j]=true)∧Hid (Below w.heap.size w W)) (fun iv _=>c.queue.length - (intOf iv).toNat)
       case atStart=>exact ⟨0,rfl,by omega,Lib.hid fun j _ h=>by omega,HB0⟩
       case round=>
        clear HB0;obtain ⟨i,rfl,hi,HJ,HB⟩:=hrel;have hi0: (0:Int)≤i:=by omega
        by_cases hlt:i < c.queue.length
        · have hlti: (i:Int) < c.queue.length:=by omega
          have hce:=HCE.out _ HB.out;obtain ⟨gq,offq,hoq,hgq,ms,mc,e0,hms⟩:=hce.2.2.2.2.2.cell hlt;obtain ⟨msg,hmsg⟩:∃x,c.queue[i]=x:=⟨_,rfl⟩;rw [hmsg] at e0 hms;rw [Nat.mul_one] at e0;have HMS:=Lib.hid hms;have c2:=hce.1;have q0:=hce.2.1;have r1:=hce.2.2.2.1;have HBAD:Hid (fitsL s.fields msg=false→chanMayB m c=false):=Lib.hid fun h=>by rw [HZ.out,all_bad hlt (by rw [hmsg];exact h)]
          have HGO:Hid (fitsL s.fields msg=true→∀j (hj:j < c.queue.length),j < i+1→fitsL s.fields c.queue[j]=true):=Lib.hid fun h j hj hjk=>by
           by_cases e:j=i
           · subst e;rw [hmsg];exact h
           · exact HJ.out j hj (by omega)
          subst hoq;clear hce hms hmsg hgq;go_wp2_with fail;go_still_tail 12,(by kernel_rfl);change wpList _ _ _ _ _ wr.drew;have HB2:Hid (Below w.heap.size w wr.drew):=Lib.hid HB.out.drew;have HM2:Hid (Row B ms 1 (intAt wr.drew) msg):=Lib.hid (HMS.out.mono fun _ _ _ hg=>intAt.below (Below.refl _ _).drew hg);generalize wr.drew=W2 at HB2 HM2 ⊢;clear c2 q0 r1 e0;go_wp2_with fail;refine (sfitsC s.fields msg fo ms fc mc W2 (by have:=HB2.out.size;omega) (HCE.out _ HB2.out).2.2.2.2.1 HM2.out).mono ?_;rintro e W3 ⟨rfl,hb3⟩;have HB3:=Lib.hid (HB2.out.trans (hb3.mono HB2.out.size));clear hb3;obtain ⟨u,hu⟩:∃u,fitsL s.fields msg=u:=⟨_,rfl⟩;rw [hu];have HU:=Lib.hid hu;clear hu;cases u
          · have HZ2:=Lib.hid (HBAD.out HU.out);go_wp2_with fail;go_ret;exact ⟨retB HZ2.out.symm,HB3.out⟩
          · have HZ2:=Lib.hid (HGO.out HU.out);go_wp2_with fail;go_roundw;case rel=>exact ⟨i+1,by go_num,by omega,HZ2,HB3⟩
            case measure=>simp [intOf];omega
        · have hlti:¬ (i:Int) < c.queue.length:=by omega
          have HA:Hid (chanMayB m c=true):=Lib.hid (by rw [HZ.out];exact all_of fun j hj=>HJ.out j hj (by omega));go_wp2_with fail;go_ret;exact ⟨retB HA.out.symm,HB.out⟩
set_option maxHeartbeats 4000000 in
set_option maxRecDepth 100000 in
theorem processMayC {B pm g a:Nat} {h:MH} {m:ModelD} {c:ProcessD} (w:World) (hk:Ck B w pm h m) (hc:processAt B w g a c) (hg:g < B):
 Calls Tryz.prog 106 #[.pointer (some ⟨pm,0,none⟩),.pointer (some ⟨g,a,none⟩)] w fun e w'=>e= .returned (.bool (procMayB m c))∧Below w.heap.size w w':=by
 have HK:=Lib.hid hk;have hB:B≤w.heap.size:=by have:=hk.le;have:=hk.lt;omega
 have c4:=hk.c4;have c5:=hk.c5;have q0:=hc.c0;have q1:=hc.c1;have q2:=hc.c2;obtain ⟨qo,qc,q3,hq⟩:=hc.frame;have HQ:=Lib.hid hq;have hql:=hq.1;have hsl:=hk.md.procs.1;clear hk hc hq;by_cases s0:c.type < 0
 · have d0:decide (c.type < 0)=true:=decide_eq_true s0;have HV:Hid (procMayB m c=false):=Lib.hid (by unfold procMayB procHeadB;rw [decide_eq_false (by omega)];rfl);clear s0;go_enter Tryz.func106,Tryz.ntmps106;go_wp2_with fail;go_quiet (fail);go_wp2_with fail;go_ret;exact ⟨retB HV.out.symm,bdrew (Below.refl _ _) _⟩
 · have d0:decide (c.type < 0)=false:=decide_eq_false s0;by_cases s1: (m.procs.length:Int)≤c.type
   · have d1:decide ((m.procs.length:Int)≤c.type)=true:=decide_eq_true s1;have HV:Hid (procMayB m c=false):=Lib.hid (by unfold procMayB procHeadB;rw [decide_eq_false (by omega)];rfl);clear s0 s1;go_enter Tryz.func106,Tryz.ntmps106;go_wp2_with fail;go_quiet (fail);go_wp2_with fail;go_ret;exact ⟨retB HV.out.symm,bdrew (Below.refl _ _) _⟩
   · have d1:decide ((m.procs.length:Int)≤c.type)=false:=decide_eq_false s1;by_cases s2:c.type=m.claim
     · have d2: (c.type == m.claim)=true:=by rw [beq_iff_eq];exact s2
       have HV:Hid (procMayB m c=false):=Lib.hid (by unfold procMayB procHeadB;rw [decide_eq_false (by omega)];rfl);clear s0 s1 s2;go_enter Tryz.func106,Tryz.ntmps106;go_wp2_with fail;go_quiet (fail);go_wp2_with fail;go_ret;exact ⟨retB HV.out.symm,bdrew (Below.refl _ _) _⟩
     · have d2: (c.type == m.claim)=false:=by rw [beq_eq_false_iff_ne];exact s2
       obtain ⟨k,hk⟩:∃k:Nat,c.type=k:=⟨c.type.toNat,by omega⟩;have hkl:k < m.procs.length:=by omega
       have hki: (k:Int) < m.procs.length:=by omega
       have hkz: (0:Int)≤k:=by omega
       obtain ⟨t,hs⟩:∃s,m.procs[k]? =some s:=⟨_,List.getElem?_eq_getElem hkl⟩;have HV:Hid (procMayB m c= (decide (0≤c.loc∧c.loc < t.locs.length∧c.prio=t.prio) && fitsL t.frame c.frame)):=Lib.hid (by unfold procMayB procHeadB procFB;rw [decide_eq_true (by omega),hk,Int.toNat_natCast,hs];rfl);rw [hk] at q0 d0 d1 d2;obtain ⟨g3,off3,ho3,hg3,hsa⟩:=HK.out.md.procs.get hs;rw [ho3] at c4;obtain ⟨fo,fc,r2,hf⟩:=hsa.frame;obtain ⟨lo,lc,r4,hlr⟩:=hsa.locs;have r8:=hsa.c8;have HF:=Lib.hid hf;have hll:=hlr.1;clear hf hsa ho3 hs hk s0 s1 s2 hlr;by_cases s3:0≤c.loc
       · have d3:decide (0≤c.loc)=true:=decide_eq_true s3;by_cases s4:c.loc < (t.locs.length:Int)
         · have d4:decide (c.loc < (t.locs.length:Int))=true:=decide_eq_true s4;by_cases s5:c.prio=t.prio
           · have d5: (c.prio == t.prio)=true:=by rw [beq_iff_eq];exact s5
             have HZ:Hid (procMayB m c=fitsL t.frame c.frame):=Lib.hid (by rw [HV.out,decide_eq_true ⟨s3,s4,s5⟩];rfl);clear s3 s4 s5;go_enter Tryz.func106,Tryz.ntmps106;go_wp2_with fail;go_quiet (fail);have HB0:Hid (Below w.heap.size w (w.drewN nq)):=Lib.hid (bdrew (Below.refl _ _) nq);have HCE:Hid (∀W,Below w.heap.size w W→W.cell? ⟨pm,4,none⟩=some (.slice (some ⟨g3,off3,none⟩) m.procs.length h.pc)∧W.cell? ⟨g,a,none⟩=some (.int .i64 k)∧W.cell? ⟨g,a+1,none⟩=some (.int .i64 c.loc)∧W.cell? ⟨g,a+2,none⟩=some (.int .i64 c.prio)∧W.cell? ⟨g,a+3,none⟩=some (.slice qo c.frame.length qc)∧W.cell? ⟨g3,off3+k*10+2,none⟩=some (.slice fo t.frame.length fc)∧W.cell? ⟨g3,off3+k*10+4,none⟩=some (.slice lo t.locs.length lc)∧W.cell? ⟨g3,off3+k*10+8,none⟩=some (.int .i64 t.prio)∧Row B fo 2 (tyAt W) t.frame∧Row B qo 1 (intAt W) c.frame):=Lib.hid fun W hb=>
              ⟨(hb.cell HK.out.lt).trans c4,(hb.cell (by show g < _;omega)).trans q0,(hb.cell (by show g < _;omega)).trans q1,(hb.cell (by show g < _;omega)).trans q2,(hb.cell (by show g < _;omega)).trans q3,(hb.cell (by show g3 < _;omega)).trans r2,(hb.cell (by show g3 < _;omega)).trans r4,(hb.cell (by show g3 < _;omega)).trans r8,HF.out.mono fun _ _ _ hg=>tyAt.below (hb.mono hB) hg,HQ.out.mono fun _ _ _ hg=>intAt.below (hb.mono hB) hg⟩
             generalize w.drewN nq=W0 at HB0 ⊢;clear c4 c5 q0 q1 q2 q3 r2 r4 r8 d0 d1 d2;obtain ⟨c4,q0,q1,q2,q3,r2,r4,r8,-,-⟩:=HCE.out _ HB0.out;go_wp2_with fail;go_quiet (fail);have HB1:Hid (Below w.heap.size w (W0.drewN nq)):=Lib.hid (bdrew HB0.out nq);generalize W0.drewN nq=W1 at HB1 ⊢;clear c4 q0 q1 q2 q3 r2 r4 r8;obtain ⟨c4,q0,q1,q2,q3,r2,r4,r8,-,-⟩:=HCE.out _ HB1.out;go_wp2_with fail;go_still_tail 37,(by kernel_rfl);change wpList _ _ _ _ _ W1.drew;have HB2:Hid (Below w.heap.size w W1.drew):=Lib.hid HB1.out.drew;generalize W1.drew=W2 at HB2 ⊢;clear c4 q0 q1 q2 q3 r2 r4 r8 d3 d4 d5;go_wp2_with fail;refine (sfitsC t.frame c.frame fo qo fc qc W2 (by have:=HB2.out.size;omega) (HCE.out _ HB2.out).2.2.2.2.2.2.2.2.1 (HCE.out _ HB2.out).2.2.2.2.2.2.2.2.2).mono ?_;rintro e W3 ⟨rfl,hb3⟩;have HB3:=Lib.hid (HB2.out.trans (hb3.mono HB2.out.size));clear hb3;go_wp2_with fail;go_ret;exact ⟨retB HZ.out.symm,HB3.out⟩
           · have d5: (c.prio == t.prio)=false:=by rw [beq_eq_false_iff_ne];exact s5
             have HZ:Hid (procMayB m c=false):=Lib.hid (by rw [HV.out,decide_eq_false (fun h=>s5 h.2.2)];rfl);clear s3 s4 s5;have HCE:Hid (∀W,Below w.heap.size w W→W.cell? ⟨pm,4,none⟩=some (.slice (some ⟨g3,off3,none⟩) m.procs.length h.pc)∧W.cell? ⟨g,a,none⟩=some (.int .i64 k)∧W.cell? ⟨g,a+1,none⟩=some (.int .i64 c.loc)∧W.cell? ⟨g,a+2,none⟩=some (.int .i64 c.prio)∧W.cell? ⟨g3,off3+k*10+4,none⟩=some (.slice lo t.locs.length lc)∧W.cell? ⟨g3,off3+k*10+8,none⟩=some (.int .i64 t.prio)):=Lib.hid fun W hb=>
              ⟨(hb.cell HK.out.lt).trans c4,(hb.cell (by show g < _;omega)).trans q0,(hb.cell (by show g < _;omega)).trans q1,(hb.cell (by show g < _;omega)).trans q2,(hb.cell (by show g3 < _;omega)).trans r4,(hb.cell (by show g3 < _;omega)).trans r8⟩
             go_enter Tryz.func106,Tryz.ntmps106;go_wp2_with fail;go_quiet (fail);have HB0:Hid (Below w.heap.size w (w.drewN nq)):=Lib.hid (bdrew (Below.refl _ _) nq);generalize w.drewN nq=W0 at HB0 ⊢;clear c4 c5 q0 q1 q2 q3 r2 r4 r8 d0 d1 d2;obtain ⟨c4,q0,q1,q2,r4,r8⟩:=HCE.out _ HB0.out;go_wp2_with fail;go_quiet (fail);have HB1:Hid (Below w.heap.size w (W0.drewN nq)):=Lib.hid (bdrew HB0.out nq);generalize W0.drewN nq=W1 at HB1 ⊢;clear c4 q0 q1 q2 r4 r8;obtain ⟨c4,q0,q1,q2,r4,r8⟩:=HCE.out _ HB1.out;go_wp2_with fail;go_quiet (fail);go_wp2_with fail;go_ret;exact ⟨retB HZ.out.symm,bdrew HB1.out _⟩
         · have d4:decide (c.loc < (t.locs.length:Int))=false:=decide_eq_false s4;have HZ:Hid (procMayB m c=false):=Lib.hid (by rw [HV.out,decide_eq_false (fun h=>s4 h.2.1)];rfl);clear s3 s4;have HCE:Hid (∀W,Below w.heap.size w W→W.cell? ⟨pm,4,none⟩=some (.slice (some ⟨g3,off3,none⟩) m.procs.length h.pc)∧W.cell? ⟨g,a,none⟩=some (.int .i64 k)∧W.cell? ⟨g,a+1,none⟩=some (.int .i64 c.loc)∧W.cell? ⟨g,a+2,none⟩=some (.int .i64 c.prio)∧W.cell? ⟨g3,off3+k*10+4,none⟩=some (.slice lo t.locs.length lc)∧W.cell? ⟨g3,off3+k*10+8,none⟩=some (.int .i64 t.prio)):=Lib.hid fun W hb=>
            ⟨(hb.cell HK.out.lt).trans c4,(hb.cell (by show g < _;omega)).trans q0,(hb.cell (by show g < _;omega)).trans q1,(hb.cell (by show g < _;omega)).trans q2,(hb.cell (by show g3 < _;omega)).trans r4,(hb.cell (by show g3 < _;omega)).trans r8⟩
           go_enter Tryz.func106,Tryz.ntmps106;go_wp2_with fail;go_quiet (fail);have HB0:Hid (Below w.heap.size w (w.drewN nq)):=Lib.hid (bdrew (Below.refl _ _) nq);generalize w.drewN nq=W0 at HB0 ⊢;clear c4 c5 q0 q1 q2 q3 r2 r4 r8 d0 d1 d2;obtain ⟨c4,q0,q1,q2,r4,r8⟩:=HCE.out _ HB0.out;go_wp2_with fail;go_quiet (fail);have HB1:Hid (Below w.heap.size w (W0.drewN nq)):=Lib.hid (bdrew HB0.out nq);generalize W0.drewN nq=W1 at HB1 ⊢;clear c4 q0 q1 q2 r4 r8;obtain ⟨c4,q0,q1,q2,r4,r8⟩:=HCE.out _ HB1.out;go_wp2_with fail;go_quiet (fail);go_wp2_with fail;go_ret;exact ⟨retB HZ.out.symm,bdrew HB1.out _⟩
       · have d3:decide (0≤c.loc)=false:=decide_eq_false s3;have HZ:Hid (procMayB m c=false):=Lib.hid (by rw [HV.out,decide_eq_false (fun h=>s3 h.1)];rfl);clear s3;have HCE:Hid (∀W,Below w.heap.size w W→W.cell? ⟨pm,4,none⟩=some (.slice (some ⟨g3,off3,none⟩) m.procs.length h.pc)∧W.cell? ⟨g,a,none⟩=some (.int .i64 k)∧W.cell? ⟨g,a+1,none⟩=some (.int .i64 c.loc)∧W.cell? ⟨g,a+2,none⟩=some (.int .i64 c.prio)∧W.cell? ⟨g3,off3+k*10+4,none⟩=some (.slice lo t.locs.length lc)∧W.cell? ⟨g3,off3+k*10+8,none⟩=some (.int .i64 t.prio)):=Lib.hid fun W hb=>
          ⟨(hb.cell HK.out.lt).trans c4,(hb.cell (by show g < _;omega)).trans q0,(hb.cell (by show g < _;omega)).trans q1,(hb.cell (by show g < _;omega)).trans q2,(hb.cell (by show g3 < _;omega)).trans r4,(hb.cell (by show g3 < _;omega)).trans r8⟩
         go_enter Tryz.func106,Tryz.ntmps106;go_wp2_with fail;go_quiet (fail);have HB0:Hid (Below w.heap.size w (w.drewN nq)):=Lib.hid (bdrew (Below.refl _ _) nq);generalize w.drewN nq=W0 at HB0 ⊢;clear c4 c5 q0 q1 q2 q3 r2 r4 r8 d0 d1 d2;obtain ⟨c4,q0,q1,q2,r4,r8⟩:=HCE.out _ HB0.out;go_wp2_with fail;go_quiet (fail);have HB1:Hid (Below w.heap.size w (W0.drewN nq)):=Lib.hid (bdrew HB0.out nq);generalize W0.drewN nq=W1 at HB1 ⊢;clear c4 q0 q1 q2 r4 r8;obtain ⟨c4,q0,q1,q2,r4,r8⟩:=HCE.out _ HB1.out;go_wp2_with fail;go_quiet (fail);go_wp2_with fail;go_ret;exact ⟨retB HZ.out.symm,bdrew HB1.out _⟩
end Go.Proofs.YthfldokfnjpkmaaGreatDoor
