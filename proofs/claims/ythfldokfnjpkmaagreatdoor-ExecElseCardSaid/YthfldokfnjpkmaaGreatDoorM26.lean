/- The document's variables. -/
import Derived.Test.YthfldokfnjpkmaaGreatDoorM25
set_option linter.unusedVariables false
set_option linter.unusedSimpArgs false
namespace Go.Proofs.YthfldokfnjpkmaaGreatDoor
open Go.ChangeShapes Go.WideShapes Go.ChangeAt Go.RowKit
theorem new_at {W:World} {o:Obj} {q:Nat} (h:W.heap.size=q): (W.alloc o).heap[q]? =some o:=by
 subst h;exact heap_alloc_new W o
theorem belowQ (n x:Int) (q:Nat) (W:World) (hq:W.heap[q]? =some (.cells #[.int .i64 x] 3 (0,0))):Calls Tryz.prog 180 #[.int .i64 n,.slice (some ⟨q,0,none⟩) 1 1] W fun e w'=>e= .returned (.bool (decide (0≤x∧x < n)))∧W=w':=by
 have h:=belowH (B:=q+1) n [x] (some ⟨q,0,none⟩) 1 W ⟨by simp,.inr ⟨q,0,rfl,by omega,fun i hi=>by
  obtain rfl:i=0:=by simpa using hi
  exact (cell_of_row _ _ _ _ _ _ hq).trans rfl⟩⟩
 have e:belowB n [x]=decide (0≤x∧x < n):=by unfold belowB;simp
 rw [e] at h;exact h
theorem Mx.proctype {w W:World} {p:Nat} {CS:Array Value} {h:MH} {m:ModelD} (k:Mx w p CS h m W) (n:Int):Calls Tryz.prog 181 #[.agg CS,.int .i64 n] W fun e w'=>e= .returned (.bool (ptypeB m n))∧Below W.heap.size W w':=by
 rw [k.eq];exact proctypeH n W k.here
theorem ddim_bad {n I L S:Int} (h:L < 1∨128 < L∨S < 0∨128 < S):ddimB n ⟨I,L,S⟩=false:=by
 have e:dimB ⟨I,L,S⟩=false:=by unfold dimB;rw [decide_eq_true (by exact h)];rfl
 unfold ddimB;rw [e,Bool.and_false]
theorem ddim_ok {n I L S:Int} (hI:0≤I∧I < n) (h:¬ (L < 1∨128 < L∨S < 0∨128 < S)):ddimB n ⟨I,L,S⟩=true:=by
 have e:dimB ⟨I,L,S⟩=true:=by unfold dimB;rw [decide_eq_false (by exact h)];rfl
 unfold ddimB;rw [e,decide_eq_true (by exact hI)];rfl
structure Vx (w:World) (CS VS:Array Value) (h:MH) (m:ModelD) (W:World):Prop where
 mx:Mx w w.heap.size CS h m W
 vx:Bq w (w.heap.size+1) VS 142 W
theorem Vx.below {w W W':World} {CS VS:Array Value} {h:MH} {m:ModelD} (k:Vx w CS VS h m W) (hb:Below W.heap.size W W'):Vx w CS VS h m W':=⟨k.mx.below hb,k.vx.below hb⟩
theorem Vx.new {w:World} {CS VS:Array Value} {h:MH} {m:ModelD} (hd:MD w.heap.size w h m) (hC:CS=mCells h m):Vx w CS VS h m ((w.alloc (.cells CS 29)).alloc (.cells VS 142)):=by
 refine ⟨(Mx.new hd hC).below (ball _),new_at (by simp), ?_⟩;exact ((Mx.new hd hC).bx.bel.alloc (by simp) _)
set_option maxRecDepth 100000 in
set_option maxHeartbeats 2000000 in
theorem variableH {h:MH} {m:ModelD} (n:Int) (v:VarD) (o:Option Addr) (cap:Nat) (w:World) (hd:MD w.heap.size w h m) (hin:Row w.heap.size o 3 (dimAt w) v.dims):
 Calls Tryz.prog 182 #[mV h m,.int .i64 n,.agg #[.int .i64 v.scope,.int .i64 v.slot,.int .i64 v.who,.int .i64 v.type,.slice o v.dims.length cap]] w fun e w'=>e= .returned (.bool (dvarB m n v))∧Below w.heap.size w w':=by
 obtain ⟨CS,hCS⟩:∃c,c=mCells h m:=⟨_,rfl⟩;have HIN:=Lib.hid hin;have hn:=hin.1;obtain ⟨sc,sl,wh,ty,dims⟩:=v;simp only at HIN hn ⊢;have HX:=Lib.hid (Vx.new (VS:=#[.int .i64 sc,.int .i64 sl,.int .i64 wh,.int .i64 ty,.slice o dims.length cap]) hd hCS);unfold mV;rw [←hCS];clear hin hd hCS;by_cases hbad:sc < 0∨2 < sc∨sl < 0∨128 < sl∨4 < dims.length
 · have HV:Hid (dvarB m n ⟨sc,sl,wh,ty,dims⟩=false):=Lib.hid (by unfold dvarB varHeadB;rw [decide_eq_true (by exact hbad)];rfl);go_enter Tryz.func182,Tryz.ntmps182;go_wp2_with fail
   all_goals first | (exfalso;omega) | (go_ret;exact ⟨retB HV.out.symm,HX.out.vx.bel⟩)
 have h1:¬sc < 0:=fun h=>hbad (.inl h)
 have h2:¬2 < sc:=fun h=>hbad (.inr (.inl h))
 have h3:¬sl < 0:=fun h=>hbad (.inr (.inr (.inl h)))
 have h4:¬128 < sl:=fun h=>hbad (.inr (.inr (.inr (.inl h))))
 have h5:¬4 < dims.length:=fun h=>hbad (.inr (.inr (.inr (.inr h))))
 have HV:Hid (dvarB m n ⟨sc,sl,wh,ty,dims⟩= (dvtB m n ⟨sc,sl,wh,ty,dims⟩ && dims.all (ddimB n))):=Lib.hid (by unfold dvarB varHeadB;rw [decide_eq_false (by exact hbad)];rfl);clear hbad;have HX1:=Lib.hid (HX.out.below (ball (.cells #[.int .i64 wh] 3)));clear HX;go_enter Tryz.func182,Tryz.ntmps182;go_wp2_with fail;refine (belowQ n wh _ _ (new_at (by simp))).mono ?_;rintro e w1 ⟨rfl,rfl⟩;generalize ((w.alloc (.cells CS 29)).alloc (.cells #[.int .i64 sc,.int .i64 sl,.int .i64 wh,.int .i64 ty,.slice o dims.length cap] 142)).alloc (.cells #[.int .i64 wh] 3)=W1 at HX1 ⊢;have x3:W1.cell? ⟨w.heap.size+1,3,none⟩=some (.int .i64 ty):=HX1.out.vx.cell rfl;obtain ⟨u1,hu1⟩:∃u,decide (0≤wh∧wh < n)=u:=⟨_,rfl⟩;rw [hu1];have HU1:=Lib.hid hu1;clear hu1;go_wp2_with (refine wpList_load_row rfl _ _ rfl _ rfl _ CS _ _ HX1.out.mx.bx.box Tryz.underlying29 rfl HX1.out.mx.info ?_);refine (HX1.out.mx.proctype ty).mono ?_;rintro e W2 ⟨rfl,hb2⟩;have HX2:=Lib.hid (HX1.out.below hb2);clear hb2 x3 HX1;have y0:W2.cell? ⟨w.heap.size+1,0,none⟩=some (.int .i64 sc):=HX2.out.vx.cell rfl;have y2:W2.cell? ⟨w.heap.size+1,2,none⟩=some (.int .i64 wh):=HX2.out.vx.cell rfl;have y3:W2.cell? ⟨w.heap.size+1,3,none⟩=some (.int .i64 ty):=HX2.out.vx.cell rfl;obtain ⟨u2,hu2⟩:∃u,ptypeB m ty=u:=⟨_,rfl⟩;rw [hu2];have HU2:=Lib.hid hu2;clear hu2;obtain ⟨t,ht⟩:∃t,dvtB m n ⟨sc,sl,wh,ty,dims⟩=t:=⟨_,rfl⟩;have HT:=Lib.hid ht;clear ht;cases t
 · have HF:Hid (dvarB m n ⟨sc,sl,wh,ty,dims⟩=false):=Lib.hid (by rw [HV.out,HT.out];rfl);by_cases hr:sc=2
   · have hr1: (sc == 2)=true:=by simp [hr]
     have hr2: (sc != 2)=false:=by simp [hr]
     have HQ:Hid ((u1 && u2)=false):=Lib.hid (by rw [←HU1.out,←HU2.out,←HT.out];exact (if_pos hr).symm);clear hr;cases u1
     · go_wp2_with fail;go_ret;exact ⟨retB HF.out.symm,HX2.out.vx.bel⟩
     · cases u2
       · go_wp2_with fail;go_ret;exact ⟨retB HF.out.symm,HX2.out.vx.bel⟩
       · cases HQ.out
   · have hr1: (sc == 2)=false:=by simp [hr]
     have hr2: (sc != 2)=true:=by simp [hr]
     have HQ:Hid (¬ (wh= -1∧ty= -1)):=Lib.hid (by
      have h:=HT.out;unfold dvtB at h;rw [if_neg (by exact hr)] at h;exact of_decide_eq_false h)
     clear hr;by_cases hw:wh= -1
     · have hw1: (wh != -1)=false:=by simp [hw]
       have ht1: (ty != -1)=true:=by rw [bne_iff_ne];exact fun h=>HQ.out ⟨hw,h⟩
       clear hw;go_wp2_with fail;go_ret;exact ⟨retB HF.out.symm,HX2.out.vx.bel⟩
     · have hw1: (wh != -1)=true:=by simp [hw]
       clear hw;go_wp2_with fail;go_ret;exact ⟨retB HF.out.symm,HX2.out.vx.bel⟩
 have HV2:Hid (dvarB m n ⟨sc,sl,wh,ty,dims⟩=dims.all (ddimB n)):=Lib.hid (by rw [HV.out,HT.out];rfl);clear HV;have HC:Hid (((sc == 2)=true∧ (sc != 2)=false∧u1=true∧u2=true)∨ ((sc == 2)=false∧ (sc != 2)=true∧ (wh != -1)=false∧ (ty != -1)=false)):=Lib.hid (by
  have h:=HT.out;unfold dvtB at h;by_cases hr:sc=2
  · rw [if_pos (by exact hr)] at h;simp only [HU1.out,HU2.out,Bool.and_eq_true] at h;exact .inl ⟨by simp [hr],by simp [hr],h⟩
  · rw [if_neg (by exact hr)] at h;have h2:wh= -1∧ty= -1:=of_decide_eq_true h;exact .inr ⟨by simp [hr],by simp [hr],by simp [h2.1],by simp [h2.2]⟩)
 clear HT HU1 HU2;rcases HC.out with ⟨a1,a2,a3,a4⟩ | ⟨a1,a2,a3,a4⟩
 · subst a3 a4;go_wp2_with fail
   go_loopw [9] (fun i wr=>∃k:Nat,i= .int .i64 k∧k≤dims.length∧Hid (∀j (hj:j < dims.length),j < k→ddimB n dims[j]=true)∧Hid (Vx w CS #[.int .i64 sc,.int .i64 sl,.int .i64 wh,.int .i64 ty,.slice o dims.length cap] h m wr)) (fun i _=>dims.length - (intOf i).toNat)
   case atStart=>exact ⟨0,rfl,by omega,Lib.hid fun j _ h=>by omega,HX2⟩
   case round=>
    clear HX2 y0 y2 y3 HC a1 a2;obtain ⟨k,rfl,hk,HD,HX⟩:=hrel;have hk0: (0:Int)≤k:=by omega
    have x4:wr.cell? ⟨w.heap.size+1,4,none⟩=some (.slice o dims.length cap):=HX.out.vx.cell rfl;by_cases hlt:k < dims.length
    · have hlti: (k:Int) < dims.length:=by omega
      obtain ⟨g,off,ho,hg,e0,e1,e2⟩:=HIN.out.cell hlt;obtain ⟨⟨I,L,S⟩,hdd⟩:∃d,dims[k]=d:=⟨_,rfl⟩;rw [hdd] at e0 e1 e2;simp only at e0 e1 e2;have c0:=(HX.out.vx.bel.cell (p:=⟨g,off+k*3,none⟩) hg).trans e0;have c1:=(HX.out.vx.bel.cell (p:=⟨g,off+k*3+1,none⟩) hg).trans e1;have c2:=(HX.out.vx.bel.cell (p:=⟨g,off+k*3+2,none⟩) hg).trans e2;subst ho;have HBAD:Hid (ddimB n ⟨I,L,S⟩=false→dvarB m n ⟨sc,sl,wh,ty,dims⟩=false):=Lib.hid fun h=>by rw [HV2.out,all_bad hlt (by rw [hdd];exact h)]
      have HGO:Hid (ddimB n ⟨I,L,S⟩=true→∀j (hj:j < dims.length),j < k+1→ddimB n dims[j]=true):=Lib.hid fun h j hj hjk=>by
       by_cases e:j=k
       · subst e;rw [hdd];exact h
       · exact HD.out j hj (by omega)
      have HX3:=Lib.hid (HX.out.below ((ball (.cells #[.int .i64 I,.int .i64 L,.int .i64 S] 201)).trans (((ball (.cells #[.int .i64 I] 3))).mono (by simp))));have HQ3:Hid (Bq wr wr.heap.size #[.int .i64 I,.int .i64 L,.int .i64 S] 201 ((wr.alloc (.cells #[.int .i64 I,.int .i64 L,.int .i64 S] 201)).alloc (.cells #[.int .i64 I] 3))):=Lib.hid ((Bq.new (Below.refl _ _) _ _).below (ball _));clear e0 e1 e2 hdd hg;go_wp2_with fail;refine (belowQ n I _ _ (new_at (by simp))).mono ?_;rintro e w3 ⟨rfl,rfl⟩;generalize (wr.alloc (.cells #[.int .i64 I,.int .i64 L,.int .i64 S] 201)).alloc (.cells #[.int .i64 I] 3)=W3 at HX3 HQ3 ⊢;have d1:W3.cell? ⟨wr.heap.size,1,none⟩=some (.int .i64 L):=HQ3.out.cell rfl;have d2:W3.cell? ⟨wr.heap.size,2,none⟩=some (.int .i64 S):=HQ3.out.cell rfl;clear c0 c1 c2 x4;by_cases hI:0≤I∧I < n
      · rw [decide_eq_true hI];by_cases hb:L < 1∨128 < L∨S < 0∨128 < S
        · have HZ:=Lib.hid (HBAD.out (ddim_bad hb));clear hI;go_wp2_with fail
          all_goals first | (exfalso;omega) | (go_ret;exact ⟨retB HZ.out.symm,HX3.out.vx.bel⟩)
        · have HZ:=Lib.hid (HGO.out (ddim_ok hI hb));have i1:¬L < 1:=fun h=>hb (.inl h)
          have i2:¬128 < L:=fun h=>hb (.inr (.inl h))
          have i3:¬S < 0:=fun h=>hb (.inr (.inr (.inl h)))
          have i4:¬128 < S:=fun h=>hb (.inr (.inr (.inr h)))
          clear hI hb;go_wp2_with fail;go_roundw;case rel=>exact ⟨k+1,by go_num,by omega,HZ,HX3⟩
          case measure=>simp [intOf];omega
      · rw [decide_eq_false hI];have HZ:=Lib.hid (HBAD.out (by unfold ddimB;rw [decide_eq_false (by exact hI)];rfl));clear hI;go_wp2_with fail;go_ret;exact ⟨retB HZ.out.symm,HX3.out.vx.bel⟩
    · have hlti:¬ (k:Int) < dims.length:=by omega
      have HZ:Hid (dvarB m n ⟨sc,sl,wh,ty,dims⟩=true):=Lib.hid (by rw [HV2.out];exact all_of fun j hj=>HD.out j hj (by omega));go_wp2_with fail;go_ret;exact ⟨retB HZ.out.symm,HX.out.vx.bel⟩
 · go_wp2_with fail
   go_loopw [9] (fun i wr=>∃k:Nat,i= .int .i64 k∧k≤dims.length∧Hid (∀j (hj:j < dims.length),j < k→ddimB n dims[j]=true)∧Hid (Vx w CS #[.int .i64 sc,.int .i64 sl,.int .i64 wh,.int .i64 ty,.slice o dims.length cap] h m wr)) (fun i _=>dims.length - (intOf i).toNat)
   case atStart=>exact ⟨0,rfl,by omega,Lib.hid fun j _ h=>by omega,HX2⟩
   case round=>
    clear HX2 y0 y2 y3 HC a1 a2 a3 a4;obtain ⟨k,rfl,hk,HD,HX⟩:=hrel;have hk0: (0:Int)≤k:=by omega
    have x4:wr.cell? ⟨w.heap.size+1,4,none⟩=some (.slice o dims.length cap):=HX.out.vx.cell rfl;by_cases hlt:k < dims.length
    · have hlti: (k:Int) < dims.length:=by omega
      obtain ⟨g,off,ho,hg,e0,e1,e2⟩:=HIN.out.cell hlt;obtain ⟨⟨I,L,S⟩,hdd⟩:∃d,dims[k]=d:=⟨_,rfl⟩;rw [hdd] at e0 e1 e2;simp only at e0 e1 e2;have c0:=(HX.out.vx.bel.cell (p:=⟨g,off+k*3,none⟩) hg).trans e0;have c1:=(HX.out.vx.bel.cell (p:=⟨g,off+k*3+1,none⟩) hg).trans e1;have c2:=(HX.out.vx.bel.cell (p:=⟨g,off+k*3+2,none⟩) hg).trans e2;subst ho;have HBAD:Hid (ddimB n ⟨I,L,S⟩=false→dvarB m n ⟨sc,sl,wh,ty,dims⟩=false):=Lib.hid fun h=>by rw [HV2.out,all_bad hlt (by rw [hdd];exact h)]
      have HGO:Hid (ddimB n ⟨I,L,S⟩=true→∀j (hj:j < dims.length),j < k+1→ddimB n dims[j]=true):=Lib.hid fun h j hj hjk=>by
       by_cases e:j=k
       · subst e;rw [hdd];exact h
       · exact HD.out j hj (by omega)
      have HX3:=Lib.hid (HX.out.below ((ball (.cells #[.int .i64 I,.int .i64 L,.int .i64 S] 201)).trans (((ball (.cells #[.int .i64 I] 3))).mono (by simp))));have HQ3:Hid (Bq wr wr.heap.size #[.int .i64 I,.int .i64 L,.int .i64 S] 201 ((wr.alloc (.cells #[.int .i64 I,.int .i64 L,.int .i64 S] 201)).alloc (.cells #[.int .i64 I] 3))):=Lib.hid ((Bq.new (Below.refl _ _) _ _).below (ball _));clear e0 e1 e2 hdd hg;go_wp2_with fail;refine (belowQ n I _ _ (new_at (by simp))).mono ?_;rintro e w3 ⟨rfl,rfl⟩;generalize (wr.alloc (.cells #[.int .i64 I,.int .i64 L,.int .i64 S] 201)).alloc (.cells #[.int .i64 I] 3)=W3 at HX3 HQ3 ⊢;have d1:W3.cell? ⟨wr.heap.size,1,none⟩=some (.int .i64 L):=HQ3.out.cell rfl;have d2:W3.cell? ⟨wr.heap.size,2,none⟩=some (.int .i64 S):=HQ3.out.cell rfl;clear c0 c1 c2 x4;by_cases hI:0≤I∧I < n
      · rw [decide_eq_true hI];by_cases hb:L < 1∨128 < L∨S < 0∨128 < S
        · have HZ:=Lib.hid (HBAD.out (ddim_bad hb));clear hI;go_wp2_with fail
          all_goals first | (exfalso;omega) | (go_ret;exact ⟨retB HZ.out.symm,HX3.out.vx.bel⟩)
        · have HZ:=Lib.hid (HGO.out (ddim_ok hI hb));have i1:¬L < 1:=fun h=>hb (.inl h)
          have i2:¬128 < L:=fun h=>hb (.inr (.inl h))
          have i3:¬S < 0:=fun h=>hb (.inr (.inr (.inl h)))
          have i4:¬128 < S:=fun h=>hb (.inr (.inr (.inr h)))
          clear hI hb;go_wp2_with fail;go_roundw;case rel=>exact ⟨k+1,by go_num,by omega,HZ,HX3⟩
          case measure=>simp [intOf];omega
      · rw [decide_eq_false hI];have HZ:=Lib.hid (HBAD.out (by unfold ddimB;rw [decide_eq_false (by exact hI)];rfl));clear hI;go_wp2_with fail;go_ret;exact ⟨retB HZ.out.symm,HX3.out.vx.bel⟩
    · have hlti:¬ (k:Int) < dims.length:=by omega
      have HZ:Hid (dvarB m n ⟨sc,sl,wh,ty,dims⟩=true):=Lib.hid (by rw [HV2.out];exact all_of fun j hj=>HD.out j hj (by omega));go_wp2_with fail;go_ret;exact ⟨retB HZ.out.symm,HX.out.vx.bel⟩
end Go.Proofs.YthfldokfnjpkmaaGreatDoor
namespace Go.Proofs.YthfldokfnjpkmaaGreatDoor
open Go.ChangeShapes Go.WideShapes Go.ChangeAt Go.RowKit
theorem Mx.drewN {w W:World} {p:Nat} {CS:Array Value} {h:MH} {m:ModelD} (k:Mx w p CS h m W) (n:Nat):Mx w p CS h m (W.drewN n):=k.below (bdrew (Below.refl _ _) n)
theorem dfield_false1 {m:ModelD} {x q:Int} (h:¬ (-1≤q∧q≤1)):dfieldB m (x,q)=false:=by
 unfold dfieldB;rw [decide_eq_false (by exact h)];rfl
theorem dfield_is {m:ModelD} {x q op:Int} (h: -1≤q∧q≤1) (ho:opAt m x=op):dfieldB m (x,q)= (!(decide (q=0)) || decide (op=2)):=by
 unfold dfieldB;rw [decide_eq_true (by exact h),ho];rfl
set_option maxRecDepth 100000 in
set_option maxHeartbeats 2000000 in
theorem matchedH {h:MH} {m:ModelD} (n:Int) (args mat:List Int) (o1 o2:Option Addr) (c1 c2:Nat) (w:World) (hd:MD w.heap.size w h m) (hn:n≤m.exprs.length) (h1:Row w.heap.size o1 1 (intAt w) args) (h2:Row w.heap.size o2 1 (intAt w) mat):
 Calls Tryz.prog 183 #[mV h m,.int .i64 n,.slice o1 args.length c1,.slice o2 mat.length c2] w fun e w'=>e= .returned (.bool (dmatB m n args mat))∧Below w.heap.size w w':=by
 obtain ⟨CS,hCS⟩:∃c,c=mCells h m:=⟨_,rfl⟩;have HX:=Lib.hid (Mx.new hd hCS);have H1:=Lib.hid h1;have H2:=Lib.hid h2;have HN:=Lib.hid hn;have n1:=h1.1;have n2:=h2.1;have n3:=hd.exprs.1;have HBL:=Lib.hid (belowH n args o1 c1 (w.alloc (.cells CS 29)) (h1.mono fun _ _ _ hg=>intAt.below (ball _) hg));unfold mV;rw [←hCS];clear h1 h2 hd hCS hn;go_enter Tryz.func183,Tryz.ntmps183;go_wp2_with fail;refine HBL.out.mono ?_;rintro e w1 ⟨rfl,rfl⟩;generalize w.alloc (.cells CS 29)=W1 at HX ⊢;obtain ⟨u,hu⟩:∃u,belowB n args=u:=⟨_,rfl⟩;rw [hu];have HU:=Lib.hid hu;clear hu HBL;by_cases hbad:u=true∧1≤args.length∧args.length≤8∧mat.length=args.length
 · obtain ⟨rfl,g1,g2,g3⟩:=hbad;have HV:Hid (dmatB m n args mat= (args.zip mat).all (dfieldB m)):=Lib.hid (by unfold dmatB;rw [HU.out,decide_eq_true ⟨g1,g2,g3⟩];rfl);have HL:=Lib.hid g3;have i1:¬args.length < 1:=by omega
   have i2:¬8 < args.length:=by omega
   have i3: ((mat.length:Int) != (args.length:Int))=false:=by simp;omega
   clear g3 g1 g2;go_wp2_with fail
   go_loopw [10] (fun i wr=>∃k:Nat,i= .int .i64 k∧k≤mat.length∧Hid (∀j (hj:j < (args.zip mat).length),j < k→dfieldB m (args.zip mat)[j]=true)∧Hid (Mx w w.heap.size CS h m wr)) (fun i _=>mat.length - (intOf i).toNat)
   case atStart=>exact ⟨0,rfl,by omega,Lib.hid fun j _ h=>by omega,HX⟩
   case round=>
    clear HX;obtain ⟨k,rfl,hk,HD,HX⟩:=hrel;have hk0: (0:Int)≤k:=by omega
    have hk00:0≤k:=by omega
    by_cases hlt:k < mat.length
    · have hlti: (k:Int) < mat.length:=by omega
      have hlta:k < args.length:=by have:=HL.out;omega
      have hltai: (k:Int) < args.length:=by omega
      obtain ⟨ga,offa,hoa,hga,ea⟩:=H1.out.cell hlta;obtain ⟨gm,offm,hom,hgm,em⟩:=H2.out.cell hlt;obtain ⟨hz,hzip⟩:=zip_getH hlta hlt;obtain ⟨a,ha⟩:∃a,args[k]=a:=⟨_,rfl⟩;obtain ⟨q,hq⟩:∃q,mat[k]=q:=⟨_,rfl⟩;have hab:0≤a∧a < n:=by
       have hb:=HU.out;unfold belowB at hb;rw [List.all_eq_true] at hb;have:=hb _ (List.getElem_mem hlta);rw [ha] at this;exact of_decide_eq_true this
      obtain ⟨x,rfl⟩:∃x:Nat,a=x:=⟨a.toNat,by omega⟩;have hxl:x < m.exprs.length:=by have:=HN.out;omega
      have hxli: (x:Int) < m.exprs.length:=by omega
      have hx0: (0:Int)≤x:=by omega
      obtain ⟨ge,offe,hoe,hge,ee⟩:=HX.out.md.exprs.cell hxl;obtain ⟨op,hop⟩:∃op,m.exprs[x].op=op:=⟨_,rfl⟩;have e0:=ee.c0;rw [hop] at e0;have HOP:Hid (opAt m (x:Int)=op):=Lib.hid (by unfold opAt;simp [hxl,hop]);have ca:wr.cell? ⟨ga,offa+k,none⟩=some (.int .i64 x):=by
       have:=(HX.out.bx.bel.cell (p:=⟨ga,offa+k*1,none⟩) hga).trans ea;rw [Nat.mul_one,ha] at this;exact this
      have cm:wr.cell? ⟨gm,offm+k,none⟩=some (.int .i64 q):=by
       have:=(HX.out.bx.bel.cell (p:=⟨gm,offm+k*1,none⟩) hgm).trans em;rw [Nat.mul_one,hq] at this;exact this
      have c6:=HX.out.c6;rw [hoe] at c6;subst hoa hom;rw [ha,hq] at hzip;have HBAD:Hid (dfieldB m ((x:Int),q)=false→dmatB m n args mat=false):=Lib.hid fun h=>by rw [HV.out,all_bad hz (by rw [hzip];exact h)]
      have HGO:Hid (dfieldB m ((x:Int),q)=true→∀j (hj:j < (args.zip mat).length),j < k+1→dfieldB m (args.zip mat)[j]=true):=Lib.hid fun h j hj hjk=>by
       by_cases e:j=k
       · subst e;rw [hzip];exact h
       · exact HD.out j hj (by omega)
      clear ea em ee ha hq hab hop hz hzip hga hgm hge hoe;by_cases q1:q < -1
      · have b1:decide (q < -1)=true:=decide_eq_true q1;have HZ:=Lib.hid (HBAD.out (dfield_false1 (by omega)));clear q1;go_wp2_with fail;go_quiet (fail);go_wp2_with fail;go_ret;exact ⟨retB HZ.out.symm,(HX.out.drewN _).bx.bel⟩
      have b1:decide (q < -1)=false:=decide_eq_false q1;by_cases q2:1 < q
      · have b2:decide (1 < q)=true:=decide_eq_true q2;have HZ:=Lib.hid (HBAD.out (dfield_false1 (by omega)));clear q1 q2;go_wp2_with fail;go_quiet (fail);go_wp2_with fail;go_ret;exact ⟨retB HZ.out.symm,(HX.out.drewN _).bx.bel⟩
      have b2:decide (1 < q)=false:=decide_eq_false q2;have HDF:Hid (dfieldB m ((x:Int),q)= (!(decide (q=0)) || decide (op=2))):=Lib.hid (dfield_is (by omega) HOP.out);by_cases q3:q=0
      · have b3: (q == 0)=true:=by simp [q3]
        by_cases q4:op=2
        · have b4: (op != 2)=false:=by simp [q4]
          have HZ:=Lib.hid (HGO.out (by rw [HDF.out,decide_eq_true q4];simp));clear q1 q2 q3 q4;go_wp2_with fail;go_quiet (fail);go_wp2_with fail;go_roundw;case rel=>exact ⟨k+1,by go_num,by omega,HZ,Lib.hid (HX.out.drewN _)⟩
          case measure=>simp [intOf];omega
        · have b4: (op != 2)=true:=by simp [q4]
          have HZ:=Lib.hid (HBAD.out (by rw [HDF.out,decide_eq_false q4,decide_eq_true q3];rfl));clear q1 q2 q3 q4;go_wp2_with fail;go_quiet (fail);go_wp2_with fail;go_ret;exact ⟨retB HZ.out.symm,(HX.out.drewN _).bx.bel⟩
      · have b3: (q == 0)=false:=by simp [q3]
        have HZ:=Lib.hid (HGO.out (by rw [HDF.out,decide_eq_false q3];rfl));clear q1 q2 q3;go_wp2_with fail;go_quiet (fail);go_wp2_with fail;go_roundw;case rel=>exact ⟨k+1,by go_num,by omega,HZ,Lib.hid (HX.out.drewN _)⟩
        case measure=>simp [intOf];omega
    · have hlti:¬ (k:Int) < mat.length:=by omega
      have HZ:Hid (dmatB m n args mat=true):=Lib.hid (by rw [HV.out];exact all_of fun j hj=>HD.out j hj (by rw [List.length_zip] at hj;omega));go_wp2_with fail;go_ret;exact ⟨retB HZ.out.symm,HX.out.bx.bel⟩
 · have HV:Hid (dmatB m n args mat=false):=Lib.hid (by
    unfold dmatB;rw [HU.out];cases u
    · rfl
    · rw [decide_eq_false (fun h=>hbad ⟨rfl,h⟩)];rfl)
   have hm: ((mat.length:Int) != (args.length:Int))=decide (mat.length≠args.length):=by
    rw [Bool.eq_iff_iff];simp;omega
   cases u
   · go_wp2_with fail;go_ret;exact ⟨retB HV.out.symm,HX.out.bx.bel⟩
   · by_cases g1:args.length < 1
     · go_wp2_with fail;go_ret;exact ⟨retB HV.out.symm,HX.out.bx.bel⟩
     · by_cases g2:8 < args.length
       · go_wp2_with fail;go_ret;exact ⟨retB HV.out.symm,HX.out.bx.bel⟩
       · have g3: ((mat.length:Int) != (args.length:Int))=true:=by
          rw [bne_iff_ne];intro e;exact hbad ⟨rfl,by omega,by omega,by omega⟩
         clear hm hbad;go_wp2_with fail;go_ret;exact ⟨retB HV.out.symm,HX.out.bx.bel⟩
end Go.Proofs.YthfldokfnjpkmaaGreatDoor
