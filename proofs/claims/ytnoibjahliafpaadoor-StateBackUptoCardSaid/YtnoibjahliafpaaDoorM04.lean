/- Type, Fits, Reach. -/
import Derived.Test.YtnoibjahliafpaaDoorM02
import Derived.StillTailTactics
set_option linter.unusedVariables false
set_option linter.unusedSimpArgs false
namespace Go.Proofs.YtnoibjahliafpaaDoor
open Go.ChangeShapes Go.WideShapes Go.ChangeAt Go.RowKit
theorem typeC (b:Int) (s:Bool) (w:World):Calls Tryd.prog 54 #[.agg #[.int .i64 b,.bool s]] w fun e w'=>e= .returned (.bool (tyB b s))∧Below w.heap.size w w':=by
 go_enter Tryd.func54,Tryd.ntmps54;go_wp2
 all_goals (go_ret;refine ⟨retB ?_,Below.alloc (Below.refl _ _) (Nat.le_refl _) _⟩)
 all_goals (unfold tyB;rw [Bool.eq_iff_iff];simp_all)
 all_goals omega
theorem fitsC (b:Int) (s:Bool) (v:Int) (w:World):Calls Tryd.prog 52 #[.agg #[.int .i64 b,.bool s],.int .i64 v] w fun e w'=>e= .returned (.bool (fitB b s v))∧Below w.heap.size w w':=by
 have HB:=Lib.hid (Below.alloc (Below.refl w.heap.size w) (Nat.le_refl _) (.cells #[.int .i64 b,.bool s] 70));have HS:Hid (w.heap.size < (w.alloc (.cells #[.int .i64 b,.bool s] 70)).heap.size):=Lib.hid (by simp);have HC:=Lib.hid (heap_alloc_new w (.cells #[.int .i64 b,.bool s] 70));go_enter Tryd.func52,Tryd.ntmps52;go_wp2_with fail;refine (typeC b s _).mono ?_;rintro e w1 ⟨rfl,hb⟩;have HB1:=Lib.hid (HB.out.trans (hb.mono (Nat.le_of_lt HS.out)));have c0:w1.cell? ⟨w.heap.size,0,none⟩=some (.int .i64 b):=by
  rw [hb.cell HS.out,cell_of_row _ _ _ _ _ _ HC.out];rfl
 have c1:w1.cell? ⟨w.heap.size,1,none⟩=some (.bool s):=by
  rw [hb.cell HS.out,cell_of_row _ _ _ _ _ _ HC.out];rfl
 clear hb HB HS HC;cases hty:tyB b s
 · have hf:fitB b s v=false:=by unfold fitB;rw [hty];rfl
   go_wp2;go_ret;exact ⟨retB hf.symm,HB1.out⟩
 · have h1:1≤b∧b≤32∧ (s=true→b=16∨b=32):=by
    unfold tyB at hty;simp at hty;cases s <;> simp_all
   obtain ⟨h1,h2,h3⟩:=h1;cases s
   · have hf:fitB b false v= (decide (0≤v) && decide (v < 2 ^ b.toNat)):=by unfold fitB;rw [hty];rfl
     have hp: (2:Int) ^ b.toNat≤2 ^ 32:=by
      have:=Nat.pow_le_pow_right (n:=2) (by decide) (show b.toNat≤32 by omega)
      exact_mod_cast this
     have hq: (0:Int) < 2 ^ b.toNat:=Int.pow_pos (by decide);have HWR:Hid (wrap64 (2 ^ b.toNat)=2 ^ b.toNat):=Lib.hid (IntWalk.wrap64_in _ (by omega));have HF:=Lib.hid hf;clear hf hp hq;go_wp2
     all_goals (go_ret;refine ⟨retB (Eq.trans ?_ HF.out.symm),HB1.out⟩)
     all_goals (have hwr:=HWR.out;rw [Bool.eq_iff_iff];simp_all)
     all_goals omega
   · rcases h3 rfl with rfl | rfl
     · have hf:fitB 16 true v= (decide (-32768≤v) && decide (v < 32768)):=by unfold fitB;rw [hty];rfl
       skip
       go_wp2
       all_goals (go_ret;refine ⟨retB (Eq.trans ?_ hf.symm),HB1.out⟩)
       all_goals (rw [Bool.eq_iff_iff];simp_all)
       all_goals omega
     · have hf:fitB 32 true v= (decide (-2147483648≤v) && decide (v < 2147483648)):=by unfold fitB;rw [hty];rfl
       skip
       go_wp2
       all_goals (go_ret;refine ⟨retB (Eq.trans ?_ hf.symm),HB1.out⟩)
       all_goals (rw [Bool.eq_iff_iff];simp_all)
       all_goals omega
theorem mul_small (a b:Int) (h1:0≤a) (h2:a≤1073741824) (h3:0≤b) (h4:b≤1073741824):0≤a*b∧a*b≤1152921504606846976:=
 ⟨Int.mul_nonneg h1 h3,Int.le_trans (Int.mul_le_mul h2 h4 h3 (by decide)) (by decide)⟩
set_option maxRecDepth 100000 in
theorem reachC (v:VarD) (o:Option Addr) (cap B:Nat) (w:World) (hin:Row B o 3 (dimAt w) v.dims) (hB:B≤w.heap.size):
 Calls Tryd.prog 95 #[.agg #[.int .i64 v.scope,.int .i64 v.slot,.int .i64 v.who,.int .i64 v.type,.slice o v.dims.length cap]] w fun e w'=>e= .returned (.int .i64 (reachL v))∧Below w.heap.size w w':=by
 have HIN:=Lib.hid hin;have hn:v.dims.length≤140737488355328:=hin.1;have HBB:=Lib.hid hB;clear hin hB;obtain ⟨sc,sl,wh,ty,dims⟩:=v;simp only at HIN hn ⊢;by_cases hbad:4 < dims.length∨sl < 0∨1073741824 < sl
 · have hv:reachL ⟨sc,sl,wh,ty,dims⟩=0:=if_pos hbad;have HV:=Lib.hid hv;clear hv;go_enter Tryd.func95,Tryd.ntmps95;go_wp2
   all_goals first | (exfalso;omega) | (go_ret;exact ⟨retI HV.out.symm,Below.alloc (Below.refl _ _) (Nat.le_refl _) _⟩)
 · have HV:Hid (reachR dims (sl+1)=reachL ⟨sc,sl,wh,ty,dims⟩):=Lib.hid (if_neg hbad).symm;generalize reachL ⟨sc,sl,wh,ty,dims⟩=R at HV;have h1:¬4 < dims.length:=fun h=>hbad (.inl h)
   have h2:¬sl < 0:=fun h=>hbad (.inr (.inl h))
   have h3:¬1073741824 < sl:=fun h=>hbad (.inr (.inr h))
   clear hbad;have hs1:IntKind.i64.wrap (sl+1)=sl+1:=IntWalk.i64_in _ (by omega);have HB:Hid (Below w.heap.size w (w.alloc (.cells #[.int .i64 sc,.int .i64 sl,.int .i64 wh,.int .i64 ty,.slice o dims.length cap] 121))):=Lib.hid (Below.alloc (Below.refl _ _) (Nat.le_refl _) _);go_enter Tryd.func95,Tryd.ntmps95;go_wp2
   go_loopw [3,26] (fun a i wr=>∃ (k:Nat) (x:Int),i= .int .i64 k∧k≤dims.length∧a= .int .i64 x∧0≤x∧x≤1073741825+k*1152921504606846976∧Hid (reachR (dims.drop k) x=R)∧Hid (Below w.heap.size w wr)) (fun _ i _=>dims.length - (intOf i).toNat)
   case atStart=>exact ⟨0,sl+1,rfl,by omega,rfl,by omega,by omega,HV,HB⟩
   case round=>
    clear HV HB;obtain ⟨k,x,rfl,hk,rfl,hx0,hx1,HR,HBR⟩:=hrel;by_cases hlt:k < dims.length
    · obtain ⟨g,off,rfl,hg,e0,e1,e2⟩:=HIN.out.cell hlt;have HDR:Hid (dims.drop k=dims[k] :: dims.drop (k+1)):=Lib.hid (List.drop_eq_getElem_cons hlt);obtain ⟨⟨I,L,S⟩,hd⟩:∃d,dims[k]=d:=⟨_,rfl⟩;rw [hd] at e0 e1 e2 HDR;simp only at e0 e1 e2;have hgw:g < w.heap.size:=Nat.lt_of_lt_of_le hg HBB.out;have c0:=(HBR.out.cell (p:=⟨g,off+k*3,none⟩) hgw).trans e0;have c1:=(HBR.out.cell (p:=⟨g,off+k*3+1,none⟩) hgw).trans e1;have c2:=(HBR.out.cell (p:=⟨g,off+k*3+2,none⟩) hgw).trans e2;clear e0 e1 e2 hd;have hsz:=HBR.out.size;by_cases hb:L < 1∨1073741825 < L∨S < 0∨1073741824 < S
      · have HZ:Hid (R=0):=Lib.hid (by rw [←HR.out,HDR.out];exact if_pos hb);clear HR HDR;go_wp2
        all_goals first | (exfalso;omega) | (go_ret;exact ⟨retI HZ.out.symm,HBR.out.alloc hsz _⟩)
      · have hm:=mul_small (L - 1) S (by omega) (by omega) (by omega) (by omega);have HN:Hid (reachR (dims.drop (k+1)) (x+ (L - 1)*S)=R):=Lib.hid (by rw [←HR.out,HDR.out];exact (if_neg hb).symm);have i1:¬L < 1:=fun h=>hb (.inl h)
        have i2:¬1073741825 < L:=fun h=>hb (.inr (.inl h))
        have i3:¬S < 0:=fun h=>hb (.inr (.inr (.inl h)))
        have i4:¬1073741824 < S:=fun h=>hb (.inr (.inr (.inr h)))
        have j1:IntKind.i64.wrap (L - 1)=L - 1:=IntWalk.i64_in _ (by omega);have j2:IntKind.i64.wrap ((L - 1)*S)= (L - 1)*S:=IntWalk.i64_in _ (by omega);have j3:IntKind.i64.wrap (x+ (L - 1)*S)=x+ (L - 1)*S:=IntWalk.i64_in _ (by omega);have HM:=Lib.hid hm;clear hm hb HR HDR;go_wp2;go_round;case rel=>
         have hm:=HM.out;exact ⟨k+1,x+ (L - 1)*S,by go_num,by omega,by go_num,by omega,by go_num,HN,Lib.hid (HBR.out.alloc hsz _)⟩
        case measure=>simp [intOf];omega
    · obtain rfl:k=dims.length:=by omega
      have HX:Hid (x=R):=Lib.hid (by have h:=HR.out;rw [List.drop_length] at h;exact h);go_wp2;go_ret;exact ⟨retI HX.out,HBR.out⟩
end Go.Proofs.YtnoibjahliafpaaDoor
namespace Go.Proofs.YtnoibjahliafpaaDoor
open Go.ChangeShapes Go.WideShapes Go.ChangeAt Go.RowKit
theorem partsOfC (op:Int) (w:World):Calls Tryd.prog 72 #[.int .i64 op] w fun e w'=>e= .returned (.int .i64 (partsOf op))∧w=w':=by
 have HP:Hid (∀n:Nat,partsOf op=n→ ((partsOf op:Nat):Int)=n):=Lib.hid fun n h=>by rw [h]
 go_enter Tryd.func72,Tryd.ntmps72;go_wp2
 all_goals (go_ret;refine ⟨retI ?_,rfl⟩)
 all_goals (unfold partsOf;repeat' split)
 all_goals first | rfl | omega | (exfalso;simp only [beq_iff_eq,beq_eq_false_iff_ne,ne_eq] at*;omega)
theorem proctypeC {B p:Nat} {h:MH} {m:ModelD} (n:Int) (w:World) (hk:Ck B w p h m):Calls Tryd.prog 75 #[.pointer (some ⟨p,0,none⟩),.int .i64 n] w fun e w'=>e= .returned (.bool (ptypeB m n))∧w=w':=by
 have c4:=hk.c4;have c5:=hk.c5;have hl:=hk.md.procs.1;clear hk;go_enter Tryd.func75,Tryd.ntmps75;go_wp2
 all_goals (go_ret;refine ⟨retB ?_,rfl⟩)
 all_goals (unfold ptypeB;rw [Bool.eq_iff_iff];simp_all)
 all_goals omega
theorem isExprC {B p:Nat} {h:MH} {m:ModelD} (n:Int) (w:World) (hk:Ck B w p h m):Calls Tryd.prog 91 #[.pointer (some ⟨p,0,none⟩),.int .i64 n] w fun e w'=>e= .returned (.bool (isExprB m n))∧w=w':=by
 have c6:=hk.c6;have hl:=hk.md.exprs.1;clear hk;go_enter Tryd.func91,Tryd.ntmps91;go_wp2
 all_goals (go_ret;refine ⟨retB ?_,rfl⟩)
 all_goals (unfold isExprB;rw [Bool.eq_iff_iff];simp_all)
 all_goals omega
theorem opAt_get {m:ModelD} {n:Int} {x:ExprD} (h:m.exprs[n.toNat]? =some x):opAt m n=x.op:=by unfold opAt;rw [h];rfl
theorem isVarC {B p:Nat} {h:MH} {m:ModelD} (n:Int) (w:World) (hk:Ck B w p h m):Calls Tryd.prog 92 #[.pointer (some ⟨p,0,none⟩),.int .i64 n] w fun e w'=>e= .returned (.bool (isVarB m n))∧w=w':=by
 have HK:=Lib.hid hk;have c6:=hk.c6;have hl:=hk.md.exprs.1;clear hk;cases hx:isExprB m n
 · have hv:isVarB m n=false:=by unfold isVarB;rw [hx];rfl
   have HV:=Lib.hid hv;have HX:=Lib.hid hx;clear hv hx;go_enter Tryd.func92,Tryd.ntmps92;go_wp2_with fail;refine (isExprC n w HK.out).mono ?_;rintro e w' ⟨rfl,rfl⟩;rw [HX.out];go_wp2;go_ret;exact ⟨retB HV.out.symm,rfl⟩
 · have hb:0≤n∧n < m.exprs.length:=by unfold isExprB at hx;simpa using hx
   obtain ⟨k,rfl⟩:∃k:Nat,n=k:=⟨n.toNat,by omega⟩;have hk:k < m.exprs.length:=by omega
   obtain ⟨g,off,ho,hg,he⟩:=HK.out.md.exprs.cell hk;have hv:isVarB m (k:Int)=decide (m.exprs[k].op=2):=by
    unfold isVarB;rw [hx,opAt_get (x:=m.exprs[k]) (by rw [Int.toNat_natCast];exact List.getElem?_eq_getElem hk)];rfl
   have HV:=Lib.hid hv;have HX:=Lib.hid hx;have c0:=he.c0;obtain ⟨op,hop⟩:∃op,m.exprs[k].op=op:=⟨_,rfl⟩;rw [hop] at c0 HV;rw [ho] at c6;have h1: (k:Int) < m.exprs.length:=by omega
   clear hv hx hb he ho hop;go_enter Tryd.func92,Tryd.ntmps92;go_wp2_with fail;refine (isExprC k w HK.out).mono ?_;rintro e w' ⟨rfl,rfl⟩;rw [HX.out];go_wp2
   all_goals (go_ret;refine ⟨retB ?_,rfl⟩)
   all_goals (rw [HV.out])
   all_goals (rw [Bool.eq_iff_iff];simp)
end Go.Proofs.YtnoibjahliafpaaDoor
namespace Go.Proofs.YtnoibjahliafpaaDoor
open Go.ChangeShapes Go.WideShapes Go.ChangeAt Go.RowKit
structure Bx (w:World) (cs:Array Value) (T:TypeId) (W:World):Prop where
 box:W.heap[w.heap.size]? =some (.cells cs T (0,0))
 bel:Below w.heap.size w W
theorem Bx.new (w:World) (cs:Array Value) (T:TypeId):Bx w cs T (w.alloc (.cells cs T)):=⟨heap_alloc_new w _,ball _⟩
theorem Bx.below {w W W':World} {cs:Array Value} {T:TypeId} (h:Bx w cs T W) (hb:Below W.heap.size W W'):Bx w cs T W':=⟨(hb.block _ (lt_of_block h.box)).trans h.box,h.bel.trans (hb.mono h.bel.size)⟩
theorem Bx.cell {w W:World} {cs:Array Value} {T:TypeId} (h:Bx w cs T W) {i:Nat} {v:Value} (hv:cs[i]? =some v):W.cell? ⟨w.heap.size,i,none⟩=some v:=(cell_of_row _ _ _ _ _ _ h.box).trans hv
theorem Ck.bx {B p:Nat} {w W:World} {h:MH} {m:ModelD} {cs:Array Value} {T:TypeId} (hk:Ck B w p h m) (hx:Bx w cs T W):Ck B W p h m:=hk.below hx.bel
set_option maxRecDepth 100000 in
theorem variableC {B p:Nat} {h:MH} {m:ModelD} (v:VarD) (o:Option Addr) (cap:Nat) (w:World) (hk:Ck B w p h m) (hin:Row B o 3 (dimAt w) v.dims):
 Calls Tryd.prog 73 #[.pointer (some ⟨p,0,none⟩),.agg #[.int .i64 v.scope,.int .i64 v.slot,.int .i64 v.who,.int .i64 v.type,.slice o v.dims.length cap]] w fun e w'=>e= .returned (.bool (varB m v))∧Below w.heap.size w w':=by
 have HK:=Lib.hid hk;have HIN:=Lib.hid hin;have hn:v.dims.length≤140737488355328:=hin.1;have HX:=Lib.hid (Bx.new w #[.int .i64 v.scope,.int .i64 v.slot,.int .i64 v.who,.int .i64 v.type,.slice o v.dims.length cap] 121);clear hin hk;obtain ⟨sc,sl,wh,ty,dims⟩:=v;simp only at HIN hn HX ⊢;by_cases hbad:sc < 0∨2 < sc∨sl < 0∨128 < sl∨4 < dims.length
 · have hv:varB m ⟨sc,sl,wh,ty,dims⟩=false:=by unfold varB varHeadB;rw [decide_eq_true (by exact hbad)];rfl
   have HV:=Lib.hid hv;clear hv;go_enter Tryd.func73,Tryd.ntmps73;go_wp2
   all_goals first | (exfalso;omega) | (go_ret;exact ⟨retB HV.out.symm,HX.out.bel⟩)
 · have hv:varB m ⟨sc,sl,wh,ty,dims⟩= (dims.all dimB && varTailB m ⟨sc,sl,wh,ty,dims⟩):=by unfold varB varHeadB;rw [decide_eq_false (by exact hbad)];simp
   have HV:=Lib.hid hv;clear hv;have h1:¬sc < 0:=fun h=>hbad (.inl h)
   have h2:¬2 < sc:=fun h=>hbad (.inr (.inl h))
   have h3:¬sl < 0:=fun h=>hbad (.inr (.inr (.inl h)))
   have h4:¬128 < sl:=fun h=>hbad (.inr (.inr (.inr (.inl h))))
   have h5:¬4 < dims.length:=fun h=>hbad (.inr (.inr (.inr (.inr h))))
   clear hbad;go_enter Tryd.func73,Tryd.ntmps73;go_wp2
   go_loopw [34] (fun i wr=>∃ (k:Nat),i= .int .i64 k∧k≤dims.length∧Hid (∀j (hj:j < dims.length),j < k→dimB dims[j]=true)∧Hid (Bx w #[.int .i64 sc,.int .i64 sl,.int .i64 wh,.int .i64 ty,.slice o dims.length cap] 121 wr)) (fun i _=>dims.length - (intOf i).toNat)
   case atStart=>exact ⟨0,rfl,by omega,Lib.hid fun j _ h=>by omega,HX⟩
   case round=>
    obtain ⟨k,rfl,hk,HD,HB⟩:=hrel;have hk0: (0:Int)≤k:=by omega
    have hsz:=HB.out.bel.size;by_cases hlt:k < dims.length
    · have hlti: (k:Int) < dims.length:=by omega
      obtain ⟨g,off,rfl,hg,e0,e1,e2⟩:=HIN.out.cell hlt;have hgw:g < w.heap.size:=by have:=HK.out.le;have:=HK.out.lt;omega
      obtain ⟨⟨I,L,S⟩,hd⟩:∃d,dims[k]=d:=⟨_,rfl⟩;rw [hd] at e0 e1 e2;simp only at e0 e1 e2;have c0:=(HB.out.bel.cell (p:=⟨g,off+k*3,none⟩) hgw).trans e0;have c1:=(HB.out.bel.cell (p:=⟨g,off+k*3+1,none⟩) hgw).trans e1;have c2:=(HB.out.bel.cell (p:=⟨g,off+k*3+2,none⟩) hgw).trans e2;have HDD:=Lib.hid hd;clear e0 e1 e2 hd;have HB1:∀o,Hid (Bx w #[.int .i64 sc,.int .i64 sl,.int .i64 wh,.int .i64 ty,.slice (some ⟨g,off,none⟩) dims.length cap] 121 (wr.alloc o)):=fun o=>Lib.hid (HB.out.below (ball o))
      have HBB:=Lib.hid HB1;clear HB1;by_cases hb:L < 1∨128 < L∨S < 0∨128 < S
      · have HZ:Hid (varB m ⟨sc,sl,wh,ty,dims⟩=false):=Lib.hid (by rw [HV.out,all_bad hlt (by rw [HDD.out];unfold dimB;rw [decide_eq_true (by exact hb)];rfl)];rfl);go_wp2
        all_goals first | (exfalso;omega) | (go_ret;exact ⟨retB HZ.out.symm,(HBB.out _).out.bel⟩)
      · have i1:¬L < 1:=fun h=>hb (.inl h)
        have i2:¬128 < L:=fun h=>hb (.inr (.inl h))
        have i3:¬S < 0:=fun h=>hb (.inr (.inr (.inl h)))
        have i4:¬128 < S:=fun h=>hb (.inr (.inr (.inr h)))
        have HDK:Hid (dimB dims[k]=true):=Lib.hid (by rw [HDD.out];unfold dimB;rw [decide_eq_false (by exact hb)];rfl);clear hb;go_wp2;go_roundw;case rel=>exact ⟨k+1,by go_num,by omega,Lib.hid fun j hj hjk=>by
         by_cases e:j=k
         · subst e;exact HDK.out
         · exact HD.out j hj (by omega),HBB.out _⟩
        case measure=>simp [intOf];omega
    · have hlti:¬ (k:Int) < dims.length:=by omega
      have HA:Hid (varB m ⟨sc,sl,wh,ty,dims⟩=varTailB m ⟨sc,sl,wh,ty,dims⟩):=Lib.hid (by rw [HV.out,all_of fun j hj=>HD.out j hj (by omega)];rfl);have c0:wr.cell? ⟨w.heap.size,0,none⟩=some (.int .i64 sc):=HB.out.cell rfl;have c2:wr.cell? ⟨w.heap.size,2,none⟩=some (.int .i64 wh):=HB.out.cell rfl;have c3:wr.cell? ⟨w.heap.size,3,none⟩=some (.int .i64 ty):=HB.out.cell rfl;have HKR:=Lib.hid (HK.out.bx HB.out);have HBE:=Lib.hid HB.out.bel;by_cases hr:sc=2
      · have HT:Hid (varTailB m ⟨sc,sl,wh,ty,dims⟩=ptypeB m ty):=Lib.hid (if_pos hr);have hr1: (sc == 2)=true:=by simp [hr]
        clear hr;go_wp2_with fail;refine (proctypeC ty wr HKR.out).mono ?_;rintro e w' ⟨rfl,rfl⟩;go_wp2_with fail;go_ret;exact ⟨retB (by rw [HA.out,HT.out]),HBE.out⟩
      · have HT:Hid (varTailB m ⟨sc,sl,wh,ty,dims⟩=decide (wh= -1∧ty= -1)):=Lib.hid (if_neg hr);have hr1: (sc == 2)=false:=by simp [hr]
        clear hr;by_cases hw:wh= -1
        · by_cases ht:ty= -1
          · have HF:Hid (varB m ⟨sc,sl,wh,ty,dims⟩=true):=Lib.hid (by rw [HA.out,HT.out];simp [hw,ht]);have hw1: (wh == -1)=true:=by simp [hw]
            have ht1: (ty == -1)=true:=by simp [ht]
            clear hw ht HA HT;go_wp2_with fail;go_ret;exact ⟨retB HF.out.symm,HBE.out⟩
          · have HF:Hid (varB m ⟨sc,sl,wh,ty,dims⟩=false):=Lib.hid (by rw [HA.out,HT.out];simp [ht]);have hw1: (wh == -1)=true:=by simp [hw]
            have ht1: (ty == -1)=false:=by simp [ht]
            clear hw ht HA HT;go_wp2_with fail;go_ret;exact ⟨retB HF.out.symm,HBE.out⟩
        · have HF:Hid (varB m ⟨sc,sl,wh,ty,dims⟩=false):=Lib.hid (by rw [HA.out,HT.out];simp [hw]);have hw1: (wh == -1)=false:=by simp [hw]
          clear hw HA HT;go_wp2_with fail;go_ret;exact ⟨retB HF.out.symm,HBE.out⟩
set_option maxHeartbeats 1000000 in
set_option maxRecDepth 100000 in
theorem fieldsC {B p:Nat} {h:MH} {m:ModelD} (args mat:List Int) (o1 o2:Option Addr) (cap1 cap2:Nat) (w:World) (hk:Ck B w p h m) (h1:Row B o1 1 (intAt w) args) (h2:Row B o2 1 (intAt w) mat):
 Calls Tryd.prog 74 #[.pointer (some ⟨p,0,none⟩),.slice o1 args.length cap1,.slice o2 mat.length cap2] w fun e w'=>e= .returned (.bool (fieldsB m args mat))∧w=w':=by
 have HK:=Lib.hid hk;have H1:=Lib.hid h1;have H2:=Lib.hid h2;have n1:=h1.1;have n2:=h2.1;clear h1 h2 hk;by_cases hbad:args.length < 1∨8 < args.length∨mat.length≠args.length
 · have hv:fieldsB m args mat=false:=by unfold fieldsB;rw [decide_eq_true (by exact hbad)];rfl
   have HV:=Lib.hid hv;clear hv;by_cases hd:args.length < 1∨8 < args.length
   · clear hbad;go_enter Tryd.func74,Tryd.ntmps74;go_wp2
     all_goals first | (exfalso;omega) | (go_ret;exact ⟨retB HV.out.symm,rfl⟩)
   · have h3:¬args.length < 1:=fun h=>hd (.inl h)
     have h4:¬8 < args.length:=fun h=>hd (.inr h)
     have h5: ((mat.length:Int) != (args.length:Int))=true:=by rw [bne_iff_ne];omega
     clear hd hbad;go_enter Tryd.func74,Tryd.ntmps74;go_wp2
     all_goals first | (exfalso;omega) | (go_ret;exact ⟨retB HV.out.symm,rfl⟩)
 · have HV:Hid (fieldsB m args mat= (args.zip mat).all (fieldB m)):=Lib.hid (by unfold fieldsB;rw [decide_eq_false (by exact hbad)];simp);have h3:¬args.length < 1:=fun h=>hbad (.inl h)
   have h4:¬8 < args.length:=fun h=>hbad (.inr (.inl h))
   have HL:Hid (mat.length=args.length):=Lib.hid (by omega);have h5: ((mat.length:Int) != (args.length:Int))=false:=by simp;omega
   have h6: (mat.length:Int)≤args.length:=by omega
   have h7: (args.length:Int)≤mat.length:=by omega
   clear hbad;go_enter Tryd.func74,Tryd.ntmps74;go_wp2
   go_loop [26] (fun i=>∃ (k:Nat),i= .int .i64 k∧k≤args.length∧Hid (∀j (hj:j < (args.zip mat).length),j < k→fieldB m (args.zip mat)[j]=true)) (fun i=>args.length - (intOf i).toNat)
   case atStart=>exact ⟨0,rfl,by omega,Lib.hid fun j _ h=>by omega⟩
   case round=>
    obtain ⟨k,rfl,hk,HD⟩:=hrel;have hk0: (0:Int)≤k:=by omega
    by_cases hlt:k < args.length
    · have hlti: (k:Int) < args.length:=by omega
      have hltm:k < mat.length:=by have:=HL.out;omega
      have hltmi: (k:Int) < mat.length:=by omega
      obtain ⟨g,off,rfl,hg,e0⟩:=H1.out.cell hlt;obtain ⟨g2,off2,rfl,hg2,e2⟩:=H2.out.cell hltm;have hz:k < (args.zip mat).length:=by rw [List.length_zip];omega
      have HZ:Hid ((args.zip mat)[k]= (args[k],mat[k])):=Lib.hid List.getElem_zip;obtain ⟨x,hx⟩:∃x,args[k]=x:=⟨_,rfl⟩;obtain ⟨q,hq⟩:∃q,mat[k]=q:=⟨_,rfl⟩;rw [hx,hq] at HZ;have c0:w.cell? ⟨g,off+k,none⟩=some (.int .i64 x):=by have:=e0;unfold intAt at this;rw [Nat.mul_one,hx] at this;exact this
      have c2:w.cell? ⟨g2,off2+k,none⟩=some (.int .i64 q):=by have:=e2;unfold intAt at this;rw [Nat.mul_one,hq] at this;exact this
      have HZL:=Lib.hid hz;have HBAD:Hid (fieldB m (x,q)=false→fieldsB m args mat=false):=Lib.hid fun h=>by rw [HV.out,all_bad hz (by rw [HZ.out];exact h)]
      have HGO:Hid (fieldB m (x,q)=true→∀j (hj:j < (args.zip mat).length),j < k+1→fieldB m (args.zip mat)[j]=true):=Lib.hid fun h j hj hjk=>by
       by_cases e:j=k
       · subst e;rw [HZ.out];exact h
       · exact HD.out j hj (by omega)
      clear e0 e2 hz hx hq hg hg2 HZ;go_wp2_with fail;refine (isExprC x w HK.out).mono ?_;rintro e w' ⟨rfl,rfl⟩;obtain ⟨b1,hb1⟩:∃b,isExprB m x=b:=⟨_,rfl⟩;rw [hb1];have HE:=Lib.hid hb1;clear hb1;cases b1
      · have HF:=Lib.hid (HBAD.out (by unfold fieldB;rw [HE.out];rfl));go_wp2_with fail;go_ret;exact ⟨retB HF.out.symm,rfl⟩
      · by_cases hq: -1≤q∧q≤1
        · have hq1:¬q < -1:=by omega
          have hq2:¬1 < q:=by omega
          by_cases hq0:q=0
          · have hq3: (q == 0)=true:=by simp [hq0]
            have HQ:=Lib.hid (And.intro hq hq0);clear hq hq0;go_wp2_with fail;refine (isVarC x w HK.out).mono ?_;rintro e w' ⟨rfl,rfl⟩;obtain ⟨b2,hb2⟩:∃b,isVarB m x=b:=⟨_,rfl⟩;rw [hb2];have HE2:=Lib.hid hb2;clear hb2;cases b2
            · have HF:=Lib.hid (HBAD.out (by unfold fieldB;rw [HE.out,HE2.out];simp [HQ.out.2]));go_wp2_with fail;go_ret;exact ⟨retB HF.out.symm,rfl⟩
            · have HF:=Lib.hid (HGO.out (by unfold fieldB;rw [HE.out,HE2.out];simp [HQ.out.2]));go_wp2_with fail;go_round;case rel=>exact ⟨k+1,by go_num,by omega,HF⟩
              case measure=>simp [intOf];omega
          · have hq3: (q == 0)=false:=by simp [hq0]
            have HF:=Lib.hid (HGO.out (by unfold fieldB;rw [HE.out];simp [hq0];exact hq));clear hq hq0;go_wp2_with fail;go_round;case rel=>exact ⟨k+1,by go_num,by omega,HF⟩
            case measure=>simp [intOf];omega
        · have HF:=Lib.hid (HBAD.out (by unfold fieldB;rw [HE.out,decide_eq_false (by exact hq)];simp));go_wp2_with fail
          all_goals first | (exfalso;omega) | (go_ret;exact ⟨retB HF.out.symm,rfl⟩)
    · have hlti:¬ (k:Int) < args.length:=by omega
      have HF:Hid (fieldsB m args mat=true):=Lib.hid (by rw [HV.out];exact all_of fun j hj=>HD.out j hj (by rw [List.length_zip] at hj;omega));go_wp2_with fail;go_ret;exact ⟨retB HF.out.symm,rfl⟩
end Go.Proofs.YtnoibjahliafpaaDoor
namespace Go.Proofs.YtnoibjahliafpaaDoor
open Go.ChangeShapes Go.WideShapes Go.ChangeAt Go.RowKit
theorem zip_get2 {α β:Type} {a:List α} {b:List β} {k:Nat} (h1:k < a.length) (h2:k < b.length):∃hz:k < (a.zip b).length,(a.zip b)[k]= (a[k],b[k]):=⟨by rw [List.length_zip];omega,by simp⟩
set_option maxHeartbeats 2000000 in
set_option maxRecDepth 100000 in
theorem sfitsC {B:Nat} (t:List (Int × Bool)) (l:List Int) (o1 o2:Option Addr) (p1 p2:Nat) (w:World) (hB:B≤w.heap.size) (h1:Row B o1 2 (tyAt w) t) (h2:Row B o2 1 (intAt w) l):
 Calls Tryd.prog 39 #[.slice o1 t.length p1,.slice o2 l.length p2] w fun e w'=>e= .returned (.bool (fitsL t l))∧Below w.heap.size w w':=by
 have HR:=Lib.hid (And.intro h1 h2);have l1:=h1.1;have l2:=h2.1;clear h1 h2;by_cases hne:l.length=t.length
 · have HV:Hid (fitsL t l= (t.zip l).all fitZ):=Lib.hid (by unfold fitsL;rw [decide_eq_true hne];rfl);have hnb: ((l.length:Int) != (t.length:Int))=false:=by rw [bne_eq_false_iff_eq];omega
   have HNE:=Lib.hid hne;have m1: (l.length:Int)≤t.length:=by omega
   have m2: (t.length:Int)≤l.length:=by omega
   clear hne;go_enter Tryd.func39,Tryd.ntmps39;go_wp2_with fail
   go_loopw [14] (fun iv W=>∃i:Nat,iv= .int .i64 i∧i≤t.length∧Hid (∀j (hj:j < (t.zip l).length),j < i→fitZ (t.zip l)[j]=true)∧Hid (Below w.heap.size w W)) (fun iv _=>t.length - (intOf iv).toNat)
   case atStart=>exact ⟨0,rfl,by omega,Lib.hid fun j _ h=>by omega,Lib.hid (Below.refl _ _)⟩
   case round=>
    obtain ⟨i,rfl,hi,HJ,HB⟩:=hrel;have hi0: (0:Int)≤i:=by omega
    by_cases hlt:i < t.length
    · have hlti: (i:Int) < t.length:=by omega
      have hlt2:i < l.length:=by have:=HNE.out;omega
      have hlti2: (i:Int) < l.length:=by omega
      obtain ⟨g1,off1,ho1,hg1,t0,t1⟩:=(HR.out.1.mono fun _ _ _ hg=>tyAt.below (HB.out.mono hB) hg).cell hlt;obtain ⟨g2,off2,ho2,hg2,e2⟩:=(HR.out.2.mono fun _ _ _ hg=>intAt.below (HB.out.mono hB) hg).cell hlt2;subst ho1 ho2;obtain ⟨⟨b,sg⟩,hbs⟩:∃q,t[i]=q:=⟨_,rfl⟩;obtain ⟨v,hv⟩:∃q,l[i]=q:=⟨_,rfl⟩;obtain ⟨hz,hzip⟩:=zip_get2 hlt hlt2;rw [hbs,hv] at hzip;rw [hbs] at t0 t1;have HBAD:Hid (fitB b sg v=false→fitsL t l=false):=Lib.hid fun h=>by rw [HV.out,all_bad hz (by rw [hzip];exact h)]
      have HGO:Hid (fitB b sg v=true→∀j (hj:j < (t.zip l).length),j < i+1→fitZ (t.zip l)[j]=true):=Lib.hid fun h j hj hjk=>by
       by_cases e:j=i
       · subst e;rw [hzip];exact h
       · exact HJ.out j hj (by omega)
      have e3:wr.cell? ⟨g2,off2+i,none⟩=some (.int .i64 v):=by
       have:=e2;unfold intAt at this;rw [Nat.mul_one,hv] at this;exact this
      have hc1:=Lib.cell?_alloc_some (Obj.cells #[.int .i64 b,.bool sg] 70) e3;simp only at t0 t1;have HX:=Lib.hid (Bx.new wr #[.int .i64 b,.bool sg] 70);have HB1:=Lib.hid (HB.out.trans ((ball (Obj.cells #[.int .i64 b,.bool sg] 70)).mono HB.out.size));clear hbs hv e2 hz hzip;go_wp2_with fail;generalize wr.alloc (Obj.cells #[.int .i64 b,.bool sg] 70)=W at hc1 HX HB1 ⊢;have x1:W.cell? ⟨wr.heap.size,0,none⟩=some (.int .i64 b):=HX.out.cell rfl;have x2:W.cell? ⟨wr.heap.size,1,none⟩=some (.bool sg):=HX.out.cell rfl;go_still_tail 5,(by kernel_rfl);change wpList _ _ _ _ _ W.drew;have HB2:Hid (Below w.heap.size w W.drew):=Lib.hid HB1.out.drew;generalize W.drew=W2 at HB2 ⊢;clear x1 x2 hc1 t0 t1 e3;go_wp2_with fail;refine (fitsC b sg v W2).mono ?_;rintro e W3 ⟨rfl,hb3⟩;have HB3:=Lib.hid (HB2.out.trans (hb3.mono HB2.out.size));clear hb3;obtain ⟨u,hu⟩:∃u,fitB b sg v=u:=⟨_,rfl⟩;rw [hu];have HU:=Lib.hid hu;clear hu;cases u
      · have HZ:=Lib.hid (HBAD.out HU.out);go_wp2_with fail;go_ret;exact ⟨retB HZ.out.symm,HB3.out⟩
      · have HZ:=Lib.hid (HGO.out HU.out);go_wp2_with fail;go_roundw;case rel=>exact ⟨i+1,by go_num,by omega,HZ,HB3⟩
        case measure=>simp [intOf];omega
    · have hlti:¬ (i:Int) < t.length:=by omega
      have HA:Hid (fitsL t l=true):=Lib.hid (by rw [HV.out];exact all_of fun j hj=>HJ.out j hj (by rw [List.length_zip] at hj;omega));go_wp2_with fail;go_ret;exact ⟨retB HA.out.symm,HB.out⟩
 · have HV:Hid (fitsL t l=false):=Lib.hid (by unfold fitsL;rw [decide_eq_false hne];rfl);have hnb: ((l.length:Int) != (t.length:Int))=true:=by rw [bne_iff_ne];omega
   clear hne;go_enter Tryd.func39,Tryd.ntmps39;go_wp2_with fail;go_ret;exact ⟨retB HV.out.symm,Below.refl _ _⟩
end Go.Proofs.YtnoibjahliafpaaDoor
