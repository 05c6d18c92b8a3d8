/- The document's Type, Fits, Reach. -/
import Derived.Test.YthfldokfnjpkmaaGreatDoorM02
import Derived.Test.YthfldokfnjpkmaaGreatDoorM20
import Derived.Test.YthfldokfnjpkmaaGreatDoorM12
import Derived.StillTailTactics
set_option linter.unusedVariables false
set_option linter.unusedSimpArgs false
namespace Go.Proofs.YthfldokfnjpkmaaGreatDoor
open Go.ChangeShapes Go.WideShapes Go.ChangeAt Go.RowKit
theorem typeH (b:Int) (s:Bool) (w:World):Calls Tryz.prog 110 #[.agg #[.int .i64 b,.bool s]] w fun e w'=>e= .returned (.bool (tyB b s))∧Below w.heap.size w w':=by
 go_enter Tryz.func110,Tryz.ntmps110;go_wp2
 all_goals (go_ret;refine ⟨retB ?_,Below.alloc (Below.refl _ _) (Nat.le_refl _) _⟩)
 all_goals (unfold tyB;rw [Bool.eq_iff_iff];simp_all)
 all_goals omega
theorem two_step (k:Nat): (2:Int)*2 ^ k=2 ^ (k+1):=by rw [Int.pow_succ];omega
theorem pow_small (k:Nat) (h:k≤32): (2:Int) ^ k≤4294967296∧0 < (2:Int) ^ k:=by
 refine ⟨?_,Int.pow_pos (by decide)⟩;have h1:=Nat.pow_le_pow_right (n:=2) (by decide) h;have h2: (2:Int) ^ k≤2 ^ 32:=by exact_mod_cast h1
 have h3: (2:Int) ^ 32=4294967296:=by decide
 omega
set_option maxRecDepth 100000 in
theorem fitsH (b:Int) (s:Bool) (v:Int) (w:World):Calls Tryz.prog 60 #[.agg #[.int .i64 b,.bool s],.int .i64 v] w fun e w'=>e= .returned (.bool (fitB b s v))∧Below w.heap.size w w':=by
 have HB:=Lib.hid (Below.alloc (Below.refl w.heap.size w) (Nat.le_refl _) (.cells #[.int .i64 b,.bool s] 138));have HS:Hid (w.heap.size < (w.alloc (.cells #[.int .i64 b,.bool s] 138)).heap.size):=Lib.hid (by simp);have HC:=Lib.hid (heap_alloc_new w (.cells #[.int .i64 b,.bool s] 138));go_enter Tryz.func60,Tryz.ntmps60;go_wp2_with fail;refine (typeH b s _).mono ?_;rintro e w1 ⟨rfl,hb⟩;have HB1:=Lib.hid (HB.out.trans (hb.mono (Nat.le_of_lt HS.out)));have c0:w1.cell? ⟨w.heap.size,0,none⟩=some (.int .i64 b):=by
  rw [hb.cell HS.out,cell_of_row _ _ _ _ _ _ HC.out];rfl
 have c1:w1.cell? ⟨w.heap.size,1,none⟩=some (.bool s):=by
  rw [hb.cell HS.out,cell_of_row _ _ _ _ _ _ HC.out];rfl
 clear hb HB HS HC;cases hty:tyB b s
 · have hf:fitB b s v=false:=by unfold fitB;rw [hty];rfl
   go_wp2;go_ret;exact ⟨retB hf.symm,HB1.out⟩
 · have h1:1≤b∧b≤32∧ (s=true→b=16∨b=32):=by
    unfold tyB at hty;simp at hty;cases s <;> simp_all
   obtain ⟨h1,h2,h3⟩:=h1;obtain ⟨n,rfl⟩:∃n:Nat,b=n:=⟨b.toNat,by omega⟩;cases s
   · have hf:fitB n false v= (decide (0≤v) && decide (v < 2 ^ n)):=by unfold fitB;rw [hty];rfl
     have HF:=Lib.hid hf;clear hf;go_wp2
     go_loop [6,8] (fun m i=>∃k:Nat,i= .int .i64 k∧k≤n∧m= .int .i64 (2 ^ k)) (fun _ i=>n - (intOf i).toNat)
     case atStart=>exact ⟨0,rfl,by omega,rfl⟩
     case round=>
      obtain ⟨k,rfl,hk,rfl⟩:=hrel;by_cases hlt:k < n
      · have HW:=Lib.hid (two_step k);have hp:=pow_small (k+1) (by omega);have hi:IntKind.i64.wrap (2*2 ^ k)=2 ^ (k+1):=by rw [HW.out];exact IntWalk.i64_in _ (by omega)
        clear hp;go_wp2;go_round;case rel=>exact ⟨k+1,by go_num,by omega,by go_num⟩
        case measure=>simp [intOf];omega
      · obtain rfl:k=n:=by omega
        go_wp2
        all_goals (go_ret;refine ⟨retB (Eq.trans ?_ HF.out.symm),HB1.out⟩)
        all_goals (rw [Bool.eq_iff_iff];simp_all)
        all_goals omega
   · obtain ⟨m,rfl⟩:∃m:Nat,n=m+1:=⟨n - 1,by omega⟩;have hf:fitB (m+1:Nat) true v= (decide (-2 ^ m≤v) && decide (v < 2 ^ m)):=by unfold fitB;rw [hty];rfl
     have HF:=Lib.hid hf;have hsub:IntKind.i64.wrap (((m+1:Nat):Int) - 1)=m:=by rw [IntWalk.i64_in _ (by omega)];omega
     clear hf hty;go_wp2
     go_loop [6,8] (fun p i=>∃k:Nat,i= .int .i64 k∧k≤m∧p= .int .i64 (2 ^ k)) (fun _ i=>m - (intOf i).toNat)
     case atStart=>exact ⟨0,rfl,by omega,rfl⟩
     case round=>
      obtain ⟨k,rfl,hk,rfl⟩:=hrel;by_cases hlt:k < m
      · have HW:=Lib.hid (two_step k);have hp:=pow_small (k+1) (by omega);have hi:IntKind.i64.wrap (2*2 ^ k)=2 ^ (k+1):=by rw [HW.out];exact IntWalk.i64_in _ (by omega)
        clear hp;go_wp2;go_round;case rel=>exact ⟨k+1,by go_num,by omega,by go_num⟩
        case measure=>simp [intOf];omega
      · obtain rfl:k=m:=by omega
        have hp:=pow_small k (by omega);have hn:IntKind.i64.wrap (-(2 ^ k))= -2 ^ k:=IntWalk.i64_in _ (by omega);clear hp;go_wp2
        all_goals (go_ret;refine ⟨retB (Eq.trans ?_ HF.out.symm),HB1.out⟩)
        all_goals (rw [Bool.eq_iff_iff];simp_all)
        all_goals omega
set_option maxRecDepth 100000 in
theorem reachH (v:VarD) (o:Option Addr) (cap B:Nat) (w:World) (hin:Row B o 3 (dimAt w) v.dims) (hB:B≤w.heap.size) (hmx:∀d ∈ v.dims,d.len≤9223372036854775807):
 Calls Tryz.prog 133 #[.agg #[.int .i64 v.scope,.int .i64 v.slot,.int .i64 v.who,.int .i64 v.type,.slice o v.dims.length cap]] w fun e w'=>e= .returned (.int .i64 (reachL v))∧Below w.heap.size w w':=by
 have HIN:=Lib.hid hin;have hn:v.dims.length≤140737488355328:=hin.1;have HBB:=Lib.hid hB;have HX:=Lib.hid (Bx.new w #[.int .i64 v.scope,.int .i64 v.slot,.int .i64 v.who,.int .i64 v.type,.slice o v.dims.length cap] 142);have HMX:=Lib.hid hmx;clear hin hB hmx;obtain ⟨sc,sl,wh,ty,dims⟩:=v;simp only at HIN hn HX HMX ⊢;by_cases hbad:4 < dims.length∨sl < 0∨1073741824 < sl
 · have hv:reachL ⟨sc,sl,wh,ty,dims⟩=0:=if_pos hbad;have HV:=Lib.hid hv;clear hv;go_enter Tryz.func133,Tryz.ntmps133;go_wp2
   all_goals first | (exfalso;omega) | (go_ret;exact ⟨retI HV.out.symm,HX.out.bel⟩)
 · have HV:Hid (reachR dims (sl+1)=reachL ⟨sc,sl,wh,ty,dims⟩):=Lib.hid (if_neg hbad).symm;generalize reachL ⟨sc,sl,wh,ty,dims⟩=R at HV;have h1:¬4 < dims.length:=fun h=>hbad (.inl h)
   have h2:¬sl < 0:=fun h=>hbad (.inr (.inl h))
   have h3:¬1073741824 < sl:=fun h=>hbad (.inr (.inr h))
   clear hbad;have hs1:IntKind.i64.wrap (sl+1)=sl+1:=IntWalk.i64_in _ (by omega);go_enter Tryz.func133,Tryz.ntmps133;go_wp2
   go_loopw [3,4] (fun a i wr=>∃ (k:Nat) (x:Int),i= .int .i64 k∧k≤dims.length∧a= .int .i64 x∧0≤x∧x≤1073741825+k*1152921504606846976∧Hid (reachR (dims.drop k) x=R)∧Hid (Bx w #[.int .i64 sc,.int .i64 sl,.int .i64 wh,.int .i64 ty,.slice o dims.length cap] 142 wr)) (fun _ i _=>dims.length - (intOf i).toNat)
   case atStart=>exact ⟨0,sl+1,rfl,by omega,rfl,by omega,by omega,HV,HX⟩
   case round=>
    clear HV HX;obtain ⟨k,x,rfl,hk,rfl,hx0,hx1,HR,HBX⟩:=hrel;have c4:wr.cell? ⟨w.heap.size,4,none⟩=some (.slice o dims.length cap):=HBX.out.cell rfl;have HBA:Hid (∀o',Bx w #[.int .i64 sc,.int .i64 sl,.int .i64 wh,.int .i64 ty,.slice o dims.length cap] 142 (wr.alloc o')):=Lib.hid fun o'=>HBX.out.below (ball o')
    by_cases hlt:k < dims.length
    · obtain ⟨g,off,rfl,hg,e0,e1,e2⟩:=HIN.out.cell hlt;have HDR:Hid (dims.drop k=dims[k] :: dims.drop (k+1)):=Lib.hid (List.drop_eq_getElem_cons hlt);obtain ⟨⟨I,L,S⟩,hd⟩:∃d,dims[k]=d:=⟨_,rfl⟩;rw [hd] at e0 e1 e2 HDR;simp only at e0 e1 e2;have hL9:L≤9223372036854775807:=by
       have h:=HMX.out dims[k] (List.getElem_mem hlt);rw [hd] at h;exact h
      have hgw:g < w.heap.size:=Nat.lt_of_lt_of_le hg HBB.out;have c0:=(HBX.out.bel.cell (p:=⟨g,off+k*3,none⟩) hgw).trans e0;have c1:=(HBX.out.bel.cell (p:=⟨g,off+k*3+1,none⟩) hgw).trans e1;have c2:=(HBX.out.bel.cell (p:=⟨g,off+k*3+2,none⟩) hgw).trans e2;clear e0 e1 e2 hd;by_cases hb:L < 1∨1073741825 < L∨S < 0∨1073741824 < S
      · have j0:1≤L→IntKind.i64.wrap (L - 1)=L - 1:=fun h=>IntWalk.i64_in _ (by omega)
        have HZ:Hid (R=0):=Lib.hid (by rw [←HR.out,HDR.out];exact if_pos hb);clear HR HDR;by_cases hL1:L < 1
        · go_wp2;go_ret;exact ⟨retI HZ.out.symm,(HBA.out _).bel⟩
        have j1:=j0 (by omega);clear j0;go_wp2
        all_goals first | (exfalso;omega) | (go_ret;exact ⟨retI HZ.out.symm,(HBA.out _).bel⟩)
      · have hm:=mul_small (L - 1) S (by omega) (by omega) (by omega) (by omega);have HN:Hid (reachR (dims.drop (k+1)) (x+ (L - 1)*S)=R):=Lib.hid (by rw [←HR.out,HDR.out];exact (if_neg hb).symm);have i1:¬L < 1:=fun h=>hb (.inl h)
        have i2:¬1073741824 < L - 1:=fun h=>hb (.inr (.inl (by omega)))
        have i3:¬S < 0:=fun h=>hb (.inr (.inr (.inl h)))
        have i4:¬1073741824 < S:=fun h=>hb (.inr (.inr (.inr h)))
        have j1:IntKind.i64.wrap (L - 1)=L - 1:=IntWalk.i64_in _ (by omega);have j2:IntKind.i64.wrap ((L - 1)*S)= (L - 1)*S:=IntWalk.i64_in _ (by omega);have j3:IntKind.i64.wrap (x+ (L - 1)*S)=x+ (L - 1)*S:=IntWalk.i64_in _ (by omega);have HM:=Lib.hid hm;clear hm hb HR HDR;go_wp2;go_roundw;case rel=>
         have hm:=HM.out;exact ⟨k+1,x+ (L - 1)*S,by go_num,by omega,by go_num,by omega,by go_num,HN,Lib.hid (HBA.out _)⟩
        case measure=>simp [intOf];omega
    · obtain rfl:k=dims.length:=by omega
      have HXR:Hid (x=R):=Lib.hid (by have h:=HR.out;rw [List.drop_length] at h;exact h);go_wp2;go_ret;exact ⟨retI HXR.out,HBX.out.bel⟩
end Go.Proofs.YthfldokfnjpkmaaGreatDoor
namespace Go.Proofs.YthfldokfnjpkmaaGreatDoor
open Go.ChangeShapes Go.WideShapes Go.ChangeAt Go.RowKit
structure Bq (w:World) (p:Nat) (cs:Array Value) (T:TypeId) (W:World):Prop where
 box:W.heap[p]? =some (.cells cs T (0,0))
 bel:Below w.heap.size w W
theorem Bq.below {w W W':World} {p:Nat} {cs:Array Value} {T:TypeId} (h:Bq w p cs T W) (hb:Below W.heap.size W W'):Bq w p cs T W':=⟨(hb.block _ (lt_of_block h.box)).trans h.box,h.bel.trans (hb.mono h.bel.size)⟩
theorem Bq.cell {w W:World} {p:Nat} {cs:Array Value} {T:TypeId} (h:Bq w p cs T W) {i:Nat} {v:Value} (hv:cs[i]? =some v):W.cell? ⟨p,i,none⟩=some v:=(cell_of_row _ _ _ _ _ _ h.box).trans hv
theorem Bq.new {w W:World} (h:Below w.heap.size w W) (cs:Array Value) (T:TypeId):Bq w W.heap.size cs T (W.alloc (.cells cs T)):=⟨heap_alloc_new W _,h.alloc h.size _⟩
structure Mx (w:World) (p:Nat) (CS:Array Value) (h:MH) (m:ModelD) (W:World):Prop where
 eq:CS=mCells h m
 bx:Bq w p CS 29 W
 md:MD w.heap.size W h m
section
variable {w W W':World} {p:Nat} {CS:Array Value} {h:MH} {m:ModelD}
theorem Mx.below (k:Mx w p CS h m W) (hb:Below W.heap.size W W'):Mx w p CS h m W':=⟨k.eq,k.bx.below hb,k.md.below (hb.mono k.bx.bel.size)⟩
theorem Mx.new (hd:MD w.heap.size w h m) (hC:CS=mCells h m):Mx w w.heap.size CS h m (w.alloc (.cells CS 29)):=⟨hC,Bq.new (Below.refl _ _) _ _,hd.below (ball _)⟩
theorem Mx.info (k:Mx w p CS h m W): (Tryz.prog.info? 29).map (·.size)=some CS.size:=by
 rw [k.eq];show _=some 7;kernel_rfl
theorem Mx.c0 (k:Mx w p CS h m W):W.cell? ⟨p,0,none⟩=some (.slice h.go m.globals.length h.gc):=k.bx.cell (by rw [k.eq];rfl)
theorem Mx.c1 (k:Mx w p CS h m W):W.cell? ⟨p,1,none⟩=some (.slice h.io m.init.length h.ic):=k.bx.cell (by rw [k.eq];rfl)
theorem Mx.c2 (k:Mx w p CS h m W):W.cell? ⟨p,2,none⟩=some (.slice h.so m.shapes.length h.sc):=k.bx.cell (by rw [k.eq];rfl)
theorem Mx.c3 (k:Mx w p CS h m W):W.cell? ⟨p,3,none⟩=some (.slice h.co m.chans.length h.cc):=k.bx.cell (by rw [k.eq];rfl)
theorem Mx.c4 (k:Mx w p CS h m W):W.cell? ⟨p,4,none⟩=some (.slice h.po m.procs.length h.pc):=k.bx.cell (by rw [k.eq];rfl)
theorem Mx.c5 (k:Mx w p CS h m W):W.cell? ⟨p,5,none⟩=some (.int .i64 m.claim):=k.bx.cell (by rw [k.eq];rfl)
theorem Mx.c6 (k:Mx w p CS h m W):W.cell? ⟨p,6,none⟩=some (.slice h.eo m.exprs.length h.ec):=k.bx.cell (by rw [k.eq];rfl)
theorem Mx.here (k:Mx w p CS h m W):MD W.heap.size W h m:=k.md.lift k.bx.bel.size
end
theorem belowH {B:Nat} (n:Int) (l:List Int) (o:Option Addr) (c:Nat) (w:World) (hr:Row B o 1 (intAt w) l):Calls Tryz.prog 180 #[.int .i64 n,.slice o l.length c] w fun e w'=>e= .returned (.bool (belowB n l))∧w=w':=by
 have HR:=Lib.hid hr;have hn:=hr.1;clear hr;go_enter Tryz.func180,Tryz.ntmps180;go_wp2
 go_loop [5] (fun i=>∃k:Nat,i= .int .i64 k∧k≤l.length∧Hid (∀j (hj:j < l.length),j < k→decide (0≤l[j]∧l[j] < n)=true)) (fun i=>l.length - (intOf i).toNat)
 case atStart=>exact ⟨0,rfl,by omega,Lib.hid fun j _ h=>by omega⟩
 case round=>
  obtain ⟨k,rfl,hk,HD⟩:=hrel;have hk0: (0:Int)≤k:=by omega
  by_cases hlt:k < l.length
  · have hlti: (k:Int) < l.length:=by omega
    obtain ⟨g,off,rfl,hg,e0⟩:=HR.out.cell hlt;obtain ⟨x,hx⟩:∃x,l[k]=x:=⟨_,rfl⟩;have c0:w.cell? ⟨g,off+k,none⟩=some (.int .i64 x):=by have:=e0;unfold intAt at this;rw [Nat.mul_one,hx] at this;exact this
    have HX:=Lib.hid hx;clear e0 hx;by_cases hb:0≤x∧x < n
    · have b1:¬x < 0:=by omega
      have b2:¬n≤x:=by omega
      have HK:Hid (∀j (hj:j < l.length),j < k+1→decide (0≤l[j]∧l[j] < n)=true):=Lib.hid fun j hj hjk=>by
       by_cases e:j=k
       · subst e;rw [HX.out];exact decide_eq_true hb
       · exact HD.out j hj (by omega)
      clear hb;go_wp2;go_round;case rel=>exact ⟨k+1,by go_num,by omega,HK⟩
      case measure=>simp [intOf];omega
    · have HF:Hid (belowB n l=false):=Lib.hid (all_bad hlt (by rw [HX.out];exact decide_eq_false hb));go_wp2
      all_goals first | (exfalso;omega) | (go_ret;exact ⟨retB HF.out.symm,rfl⟩)
  · have hlti:¬ (k:Int) < l.length:=by omega
    have HF:Hid (belowB n l=true):=Lib.hid (all_of fun j hj=>HD.out j hj (by omega));go_wp2;go_ret;exact ⟨retB HF.out.symm,rfl⟩
theorem below1 (n x:Int) (W:World):Calls Tryz.prog 180 #[.int .i64 n,.slice (some ⟨W.heap.size,0,none⟩) 1 1] (W.alloc (.cells #[.int .i64 x] 3)) fun e w'=>e= .returned (.bool (decide (0≤x∧x < n)))∧W.alloc (.cells #[.int .i64 x] 3)=w':=by
 have h:=belowH (B:=W.heap.size+1) n [x] (some ⟨W.heap.size,0,none⟩) 1 (W.alloc (.cells #[.int .i64 x] 3)) ⟨by simp,.inr ⟨W.heap.size,0,rfl,by omega,fun i hi=>by
  obtain rfl:i=0:=by simpa using hi
  exact (cell_of_row _ _ _ _ _ _ (heap_alloc_new W _)).trans rfl⟩⟩
 have e:belowB n [x]=decide (0≤x∧x < n):=by unfold belowB;simp
 rw [e] at h;exact h
theorem partsH (op:Int) (hop:1≤op∧op≤39) (w:World):Calls Tryz.prog 179 #[.int .i64 op] w fun e w'=>e= .returned (.int .i64 (partsOf op))∧w=w':=by
 go_enter Tryz.func179,Tryz.ntmps179;go_wp2
 all_goals (go_ret;refine ⟨retI ?_,rfl⟩)
 all_goals (unfold partsOf;repeat' split)
 all_goals first | rfl | omega | (exfalso;simp only [beq_iff_eq,beq_eq_false_iff_ne,ne_eq] at*;omega)
theorem proctypeH {h:MH} {m:ModelD} (n:Int) (w:World) (hd:MD w.heap.size w h m):Calls Tryz.prog 181 #[mV h m,.int .i64 n] w fun e w'=>e= .returned (.bool (ptypeB m n))∧Below w.heap.size w w':=by
 obtain ⟨CS,hCS⟩:∃c,c=mCells h m:=⟨_,rfl⟩;have HX:=Lib.hid (Mx.new hd hCS);have c4:=HX.out.c4;have c5:=HX.out.c5;have hl:=hd.procs.1;unfold mV;rw [←hCS];clear hd hCS;go_enter Tryz.func181,Tryz.ntmps181;go_wp2
 all_goals (go_ret;refine ⟨retB ?_,HX.out.bx.bel⟩)
 all_goals (unfold ptypeB;rw [Bool.eq_iff_iff];simp_all)
 all_goals omega
theorem targetH {h:MH} {m:ModelD} (n:Int) (w:World) (hd:MD w.heap.size w h m):Calls Tryz.prog 201 #[mV h m,.int .i64 n] w fun e w'=>e= .returned (.bool (settableB m n))∧Below w.heap.size w w':=by
 obtain ⟨CS,hCS⟩:∃c,c=mCells h m:=⟨_,rfl⟩;have HX:=Lib.hid (Mx.new hd hCS);have c6:=HX.out.c6;have hl:=hd.exprs.1;have HD:=Lib.hid hd;unfold mV;rw [←hCS];clear hd hCS;by_cases hn:0≤n∧n < m.exprs.length
 · obtain ⟨k,rfl⟩:∃k:Nat,n=k:=⟨n.toNat,by omega⟩;have hk:k < m.exprs.length:=by omega
   obtain ⟨g,off,ho,hg,he⟩:=HD.out.exprs.cell hk;have HE:=Lib.hid (he.below (ball (.cells CS 29)) hg);obtain ⟨op,hop⟩:∃op,m.exprs[k].op=op:=⟨_,rfl⟩;obtain ⟨sc,hsc⟩:∃sc,m.exprs[k].v.scope=sc:=⟨_,rfl⟩;have d0:=HE.out.c0;have d5:=HE.out.v.c0;rw [hop] at d0;rw [hsc] at d5;rw [ho] at c6;have HV:Hid (settableB m (k:Int)= (decide (op=2) && decide (sc≠2))):=Lib.hid (by
    unfold settableB isVarB;have e1:isExprB m (k:Int)=true:=by unfold isExprB;simpa using hn
    have e2:opAt m (k:Int)=op:=by unfold opAt;simp [hk,hop]
    have e3:scopeAt m (k:Int)=sc:=by unfold scopeAt;simp [hk,hsc]
    rw [e1,e2,e3];simp)
   have h1: (k:Int) < m.exprs.length:=by omega
   have h0: (0:Int)≤k:=by omega
   clear hn he hg hop hsc ho;go_enter Tryz.func201,Tryz.ntmps201;go_wp2
   all_goals (go_ret;refine ⟨retB (Eq.trans ?_ HV.out.symm),HX.out.bx.bel⟩)
   all_goals (rw [Bool.eq_iff_iff];simp_all)
 · have HV:Hid (settableB m n=false):=Lib.hid (by unfold settableB isVarB isExprB;rw [decide_eq_false hn];rfl);by_cases h0:0≤n
   · have h1:¬n < m.exprs.length:=by omega
     clear hn;go_enter Tryz.func201,Tryz.ntmps201;go_wp2
     all_goals (go_ret;exact ⟨retB HV.out.symm,HX.out.bx.bel⟩)
   · clear hn;go_enter Tryz.func201,Tryz.ntmps201;go_wp2
     all_goals (go_ret;exact ⟨retB HV.out.symm,HX.out.bx.bel⟩)
set_option maxRecDepth 100000 in
theorem roomH {h:MH} {m:ModelD} (pr:Nat) (v:VarD) (o:Option Addr) (cap:Nat) (w:World) (hd:MD w.heap.size w h m) (hsc:0≤v.scope∧v.scope≤2) (h1:v.scope=1→pr < m.procs.length) (h2:v.scope=2→0≤v.type∧v.type < m.procs.length):
 Calls Tryz.prog 185 #[mV h m,.int .i64 pr,.agg #[.int .i64 v.scope,.int .i64 v.slot,.int .i64 v.who,.int .i64 v.type,.slice o v.dims.length cap]] w fun e w'=>e= .returned (.int .i64 (roomL m pr v))∧Below w.heap.size w w':=by
 obtain ⟨CS,hCS⟩:∃c,c=mCells h m:=⟨_,rfl⟩;obtain ⟨sc,sl,wh,ty,dims⟩:=v;simp only at hsc h1 h2 ⊢;have HX:=Lib.hid ((Mx.new hd hCS).below (ball (.cells #[.int .i64 sc,.int .i64 sl,.int .i64 wh,.int .i64 ty,.slice o dims.length cap] 142)));have c0:=HX.out.c0;have c4:=HX.out.c4;have l1:=hd.globals.1;have l2:=hd.procs.1;have HD:=Lib.hid hd;unfold mV;rw [←hCS];clear hd hCS;by_cases e0:sc=0
 · subst e0;have HV:Hid (roomL m pr ⟨0,sl,wh,ty,dims⟩= (m.globals.length:Int)):=Lib.hid rfl;go_enter Tryz.func185,Tryz.ntmps185;go_wp2;go_ret;exact ⟨retI HV.out.symm,HX.out.bx.bel⟩
 by_cases e1:sc=1
 · subst e1;have hp:=h1 rfl;obtain ⟨g,off,ho,hg,he⟩:=HX.out.md.procs.cell hp;obtain ⟨o3,q3,f0,f1⟩:=he.frame;rw [ho] at c4;have hpi: (pr:Int) < m.procs.length:=by omega
   have HV:Hid (roomL m pr ⟨1,sl,wh,ty,dims⟩= (m.procs[pr].frame.length:Int)):=Lib.hid (by unfold roomL frameAt;simp [hp]);have l3:=f1.1;clear he ho hg f1;go_enter Tryz.func185,Tryz.ntmps185;go_wp2;go_ret;exact ⟨retI HV.out.symm,HX.out.bx.bel⟩
 · obtain rfl:sc=2:=by omega
   obtain ⟨t0,t1⟩:=h2 rfl;obtain ⟨k,rfl⟩:∃k:Nat,ty=k:=⟨ty.toNat,by omega⟩;have hk:k < m.procs.length:=by omega
   obtain ⟨g,off,ho,hg,he⟩:=HX.out.md.procs.cell hk;obtain ⟨o3,q3,f0,f1⟩:=he.frame;rw [ho] at c4;have HV:Hid (roomL m pr ⟨2,sl,wh,k,dims⟩= (m.procs[k].frame.length:Int)):=Lib.hid (by unfold roomL frameAt;simp [hk]);have l3:=f1.1;clear he ho hg f1 e0 e1;go_enter Tryz.func185,Tryz.ntmps185;go_wp2;go_ret;exact ⟨retI HV.out.symm,HX.out.bx.bel⟩
end Go.Proofs.YthfldokfnjpkmaaGreatDoor
namespace Go.Proofs.YthfldokfnjpkmaaGreatDoor
open Go.ChangeShapes Go.WideShapes Go.ChangeAt Go.RowKit
theorem zip_getH {α β:Type} {a:List α} {b:List β} {k:Nat} (h1:k < a.length) (h2:k < b.length):∃h:k < (a.zip b).length,(a.zip b)[k]= (a[k],b[k]):=⟨by rw [List.length_zip];omega,List.getElem_zip⟩
def typedF (t:List (Int × Bool)) (v:List Int):Int:=match bad fitZ (t.zip v) with
 | some i=>(i:Int)
 | none=> -1
set_option maxRecDepth 100000 in
set_option maxHeartbeats 1000000 in
theorem typedH {B:Nat} (t:List (Int × Bool)) (v:List Int) (o1 o2:Option Addr) (c1 c2:Nat) (w:World) (hB:B≤w.heap.size) (h1:Row B o1 2 (tyAt w) t) (h2:Row B o2 1 (intAt w) v) (hl:v.length=t.length):
 Calls Tryz.prog 151 #[.slice o1 t.length c1,.slice o2 v.length c2] w fun e w'=>e= .returned (.int .i64 (typedF t v))∧Below w.heap.size w w':=by
 have H1:=Lib.hid h1;have H2:=Lib.hid h2;have HL:=Lib.hid hl;have HBB:=Lib.hid hB;have n1:=h1.1;have n2:=h2.1;have HB0:Hid (Below w.heap.size w w):=Lib.hid (Below.refl _ _);clear h1 h2 hl hB;go_enter Tryz.func151,Tryz.ntmps151;go_wp2_with fail
 go_loopw [5] (fun i wr=>∃k:Nat,i= .int .i64 k∧k≤t.length∧Hid (∀j (hj:j < (t.zip v).length),j < k→fitZ (t.zip v)[j]=true)∧Hid (Below w.heap.size w wr)) (fun i _=>t.length - (intOf i).toNat)
 case atStart=>exact ⟨0,rfl,by omega,Lib.hid fun j _ h=>by omega,HB0⟩
 case round=>
  clear HB0;obtain ⟨k,rfl,hk,HJ,HB⟩:=hrel;have hk0: (0:Int)≤k:=by omega
  by_cases hlt:k < t.length
  · have hlti: (k:Int) < t.length:=by omega
    have hlt2:k < v.length:=by have:=HL.out;omega
    have hlti2: (k:Int) < v.length:=by omega
    obtain ⟨g,off,hog,hg,t0,t1⟩:=(H1.out.mono fun _ _ _ hg=>tyAt.below (HB.out.mono HBB.out) hg).cell hlt;obtain ⟨g2,off2,hog2,hg2,e2⟩:=(H2.out.mono fun _ _ _ hg=>intAt.below (HB.out.mono HBB.out) hg).cell hlt2;subst hog hog2;obtain ⟨hz,hzip⟩:=zip_getH hlt hlt2;obtain ⟨⟨b,sg⟩,hbs⟩:∃x,t[k]=x:=⟨_,rfl⟩;obtain ⟨x,hx⟩:∃x,v[k]=x:=⟨_,rfl⟩;rw [hbs] at t0 t1 hzip;rw [hx] at hzip;have HBAD:Hid (fitB b sg x=false→typedF t v= (k:Int)):=Lib.hid fun h=>by
     unfold typedF;rw [bad_some hz (by rw [hzip];exact h) (fun j hj hjk=>HJ.out j hj hjk)]
    have HGO:Hid (fitB b sg x=true→∀j (hj:j < (t.zip v).length),j < k+1→fitZ (t.zip v)[j]=true):=Lib.hid fun h j hj hjk=>by
     by_cases e:j=k
     · subst e;rw [hzip];exact h
     · exact HJ.out j hj (by omega)
    have e3:wr.cell? ⟨g2,off2+k,none⟩=some (.int .i64 x):=by
     have:=e2;unfold intAt at this;rw [Nat.mul_one,hx] at this;exact this
    simp only at t0 t1;clear hbs hx e2 hz hzip hg hg2;go_wp2_with fail;go_still_tail 8,(by kernel_rfl);change wpList _ _ _ _ _ wr.drew;have HWD:Hid (Below w.heap.size w wr.drew):=Lib.hid HB.out.drew;generalize wr.drew=W2 at HWD ⊢;clear t0 t1 e3;go_wp2_with fail;refine (fitsH b sg x W2).mono ?_;rintro e W3 ⟨rfl,hb3⟩;have HW3:=Lib.hid (HWD.out.trans (hb3.mono HWD.out.size));clear hb3;obtain ⟨u,hu⟩:∃u,fitB b sg x=u:=⟨_,rfl⟩;rw [hu];have HU:=Lib.hid hu;clear hu;cases u
    · have HZ:=Lib.hid (HBAD.out HU.out);go_wp2_with fail;go_ret;exact ⟨retI HZ.out.symm,HW3.out⟩
    · have HZ:=Lib.hid (HGO.out HU.out);go_wp2_with fail;go_roundw;case rel=>exact ⟨k+1,by go_num,by omega,HZ,HW3⟩
      case measure=>simp [intOf];omega
  · have hlti:¬ (k:Int) < t.length:=by omega
    have HZ:Hid (typedF t v= -1):=Lib.hid (by unfold typedF;rw [bad_none fun j hj=>HJ.out j hj (by rw [List.length_zip] at hj;omega)]);go_wp2_with fail;go_ret;exact ⟨retI HZ.out.symm,HB.out⟩
theorem typed_neg {t:List (Int × Bool)} {v:List Int} (h:typedF t v < 0): (t.zip v).all fitZ=true:=by
 unfold typedF at h;split at h
 · omega
 · rename_i hb
   rw [List.all_eq_true];exact bad_all hb
theorem typed_pos {t:List (Int × Bool)} {v:List Int} (h:0≤typedF t v): (t.zip v).all fitZ=false∧idxB (bad fitZ (t.zip v))= (typedF t v,false):=by
 unfold typedF at h ⊢;cases hb:bad fitZ (t.zip v) with
 | none=>rw [hb] at h;simp at h
 | some i=>
   refine ⟨?_,rfl⟩;unfold bad at hb;rw [List.findIdx?_eq_some_iff_getElem] at hb;obtain ⟨hi,h1,-⟩:=hb;exact all_bad hi (by simpa using h1)
set_option maxRecDepth 100000 in
set_option maxHeartbeats 1000000 in
theorem shapeH {B:Nat} (s:ShapeD) (o:Option Addr) (c:Nat) (w:World) (hB:B≤w.heap.size) (h1:Row B o 2 (tyAt w) s.fields):
 Calls Tryz.prog 152 #[.agg #[.int .i64 s.room,.slice o s.fields.length c]] w fun e w'=>e= .returned (.bool (shapeB s))∧Below w.heap.size w w':=by
 have H1:=Lib.hid h1;have HBB:=Lib.hid hB;have n1:=h1.1;clear h1 hB;obtain ⟨ro,fl⟩:=s;simp only at H1 n1 ⊢;have HX:=Lib.hid (Bx.new w #[.int .i64 ro,.slice o fl.length c] 102);by_cases hbad:ro < 0∨16 < ro∨fl.length < 1∨8 < fl.length
 · have HV:Hid (shapeB ⟨ro,fl⟩=false):=Lib.hid (by unfold shapeB;rw [decide_eq_true (by exact hbad)];rfl);go_enter Tryz.func152,Tryz.ntmps152;go_wp2
   all_goals first | (exfalso;omega) | (go_ret;exact ⟨retB HV.out.symm,HX.out.bel⟩)
 · have HV:Hid (shapeB ⟨ro,fl⟩=fl.all tyP):=Lib.hid (by unfold shapeB;rw [decide_eq_false (by exact hbad)];rfl);have i1:¬ro < 0:=fun h=>hbad (.inl h)
   have i2:¬16 < ro:=fun h=>hbad (.inr (.inl h))
   have i3:¬fl.length < 1:=fun h=>hbad (.inr (.inr (.inl h)))
   have i4:¬8 < fl.length:=fun h=>hbad (.inr (.inr (.inr h)))
   clear hbad;go_enter Tryz.func152,Tryz.ntmps152;go_wp2_with fail
   go_loopw [3] (fun i wr=>∃k:Nat,i= .int .i64 k∧k≤fl.length∧Hid (∀j (hj:j < fl.length),j < k→tyP fl[j]=true)∧Hid (Bx w #[.int .i64 ro,.slice o fl.length c] 102 wr)) (fun i _=>fl.length - (intOf i).toNat)
   case atStart=>exact ⟨0,rfl,by omega,Lib.hid fun j _ h=>by omega,HX⟩
   case round=>
    clear HX;obtain ⟨k,rfl,hk,HJ,HX⟩:=hrel;have hk0: (0:Int)≤k:=by omega
    have x1:wr.cell? ⟨w.heap.size,1,none⟩=some (.slice o fl.length c):=HX.out.cell rfl;by_cases hlt:k < fl.length
    · have hlti: (k:Int) < fl.length:=by omega
      obtain ⟨g,off,hog,hg,t0,t1⟩:=(H1.out.mono fun _ _ _ hg=>tyAt.below (HX.out.bel.mono HBB.out) hg).cell hlt;subst hog;obtain ⟨⟨b,sg⟩,hbs⟩:∃x,fl[k]=x:=⟨_,rfl⟩;rw [hbs] at t0 t1;have HBAD:Hid (tyB b sg=false→shapeB ⟨ro,fl⟩=false):=Lib.hid fun h=>by rw [HV.out,all_bad hlt (by rw [hbs];exact h)]
      have HGO:Hid (tyB b sg=true→∀j (hj:j < fl.length),j < k+1→tyP fl[j]=true):=Lib.hid fun h j hj hjk=>by
       by_cases e:j=k
       · subst e;rw [hbs];exact h
       · exact HJ.out j hj (by omega)
      simp only at t0 t1;clear hbs hg;go_wp2_with fail;refine (typeH b sg wr).mono ?_;rintro e W3 ⟨rfl,hb3⟩;have HX3:=Lib.hid (HX.out.below hb3);clear hb3 t0 t1 x1;obtain ⟨u,hu⟩:∃u,tyB b sg=u:=⟨_,rfl⟩;rw [hu];have HU:=Lib.hid hu;clear hu;cases u
      · have HZ:=Lib.hid (HBAD.out HU.out);go_wp2_with fail;go_ret;exact ⟨retB HZ.out.symm,HX3.out.bel⟩
      · have HZ:=Lib.hid (HGO.out HU.out);go_wp2_with fail;go_roundw;case rel=>exact ⟨k+1,by go_num,by omega,HZ,HX3⟩
        case measure=>simp [intOf];omega
    · have hlti:¬ (k:Int) < fl.length:=by omega
      have HZ:Hid (shapeB ⟨ro,fl⟩=true):=Lib.hid (by rw [HV.out];exact all_of fun j hj=>HJ.out j hj (by omega));go_wp2_with fail;go_ret;exact ⟨retB HZ.out.symm,HX.out.bel⟩
end Go.Proofs.YthfldokfnjpkmaaGreatDoor
