/- The document's variables. -/
import Derived.Test.YtnoibjahliafpaaGreatDoorM05
import Derived.Test.YtnoibjahliafpaaGreatDoorM03
import Derived.Test.YtnoibjahliafpaaGreatDoorM02
import Derived.Test.YtnoibjahliafpaaGreatDoorM04
import Derived.StillTailTactics
set_option linter.unusedVariables false
set_option linter.unusedSimpArgs false
namespace Go.Proofs.YtnoibjahliafpaaGreatDoor
open Go.ChangeShapes Go.WideShapes Go.ChangeAt Go.RowKit
theorem new_at {W:World} {o:Obj} {q:Nat} (h:W.heap.size=q): (W.alloc o).heap[q]? =some o:=by
 subst h;exact heap_alloc_new W o
theorem belowQ (n x:Int) (q:Nat) (W:World) (hq:W.heap[q]? =some (.cells #[.int .i64 x] 3 (0,0))):Calls Tryz.prog 103 #[.int .i64 n,.slice (some ⟨q,0,none⟩) 1 1] W fun e w'=>e= .returned (.bool (decide (0≤x∧x < n)))∧W=w':=by
 have h:=belowH (B:=q+1) n [x] (some ⟨q,0,none⟩) 1 W ⟨by simp,.inr ⟨q,0,rfl,by omega,fun i hi=>by
  obtain rfl:i=0:=by simpa using hi
  exact (cell_of_row _ _ _ _ _ _ hq).trans rfl⟩⟩
 have e:belowB n [x]=decide (0≤x∧x < n):=by unfold belowB;simp
 rw [e] at h;exact h
theorem Mx.proctype {w W:World} {p:Nat} {CS:Array Value} {h:MH} {m:ModelD} (k:Mx w p CS h m W) (n:Int):Calls Tryz.prog 104 #[.agg CS,.int .i64 n] W fun e w'=>e= .returned (.bool (ptypeB m n))∧Below W.heap.size W w':=by
 rw [k.eq];exact proctypeH n W k.here
theorem ddim_bad {n I L S:Int} (h:L < 1∨128 < L∨S < 0∨128 < S):ddimB n ⟨I,L,S⟩=false:=by
 have e:dimB ⟨I,L,S⟩=false:=by unfold dimB;rw [decide_eq_true (by exact h)];rfl
 unfold ddimB;rw [e,Bool.and_false]
theorem ddim_ok {n I L S:Int} (hI:0≤I∧I < n) (h:¬ (L < 1∨128 < L∨S < 0∨128 < S)):ddimB n ⟨I,L,S⟩=true:=by
 have e:dimB ⟨I,L,S⟩=true:=by unfold dimB;rw [decide_eq_false (by exact h)];rfl
 unfold ddimB;rw [e,decide_eq_true (by exact hI)];rfl
structure Vx (w:World) (CS VS:Array Value) (h:MH) (m:ModelD) (W:World):Prop where
 mx:Mx w w.heap.size CS h m W
 vx:Bq w (w.heap.size+1) VS 145 W
theorem Vx.below {w W W':World} {CS VS:Array Value} {h:MH} {m:ModelD} (k:Vx w CS VS h m W) (hb:Below W.heap.size W W'):Vx w CS VS h m W':=⟨k.mx.below hb,k.vx.below hb⟩
theorem Vx.new {w:World} {CS VS:Array Value} {h:MH} {m:ModelD} (hd:MD w.heap.size w h m) (hC:CS=mCells h m):Vx w CS VS h m ((w.alloc (.cells CS 29)).alloc (.cells VS 145)):=by
 refine ⟨(Mx.new hd hC).below (ball _),new_at (by simp), ?_⟩;exact ((Mx.new hd hC).bx.bel.alloc (by simp) _)
set_option maxRecDepth 100000 in
set_option maxHeartbeats 2000000 in
theorem variableH {h:MH} {m:ModelD} (n:Int) (v:VarD) (o:Option Addr) (cap:Nat) (w:World) (hd:MD w.heap.size w h m) (hin:Row w.heap.size o 3 (dimAt w) v.dims):
 Calls Tryz.prog 105 #[mV h m,.int .i64 n,.agg #[.int .i64 v.scope,.int .i64 v.slot,.int .i64 v.who,.int .i64 v.type,.slice o v.dims.length cap]] w fun e w'=>e= .returned (.bool (dvarB m n v))∧Below w.heap.size w w':=by
 obtain ⟨CS,hCS⟩:∃c,c=mCells h m:=⟨_,rfl⟩;have HIN:=Lib.hid hin;have hn:=hin.1;obtain ⟨sc,sl,wh,ty,dims⟩:=v;simp only at HIN hn ⊢;have HX:=Lib.hid (Vx.new (VS:=#[.int .i64 sc,.int .i64 sl,.int .i64 wh,.int .i64 ty,.slice o dims.length cap]) hd hCS);unfold mV;rw [←hCS];clear hin hd hCS;by_cases hbad:sc < 0∨2 < sc∨sl < 0∨128 < sl∨4 < dims.length
 · have HV:Hid (dvarB m n ⟨sc,sl,wh,ty,dims⟩=false):=Lib.hid (by unfold dvarB varHeadB;rw [decide_eq_true (by exact hbad)];rfl);go_enter Tryz.func105,Tryz.ntmps105;go_wp2_with fail
   all_goals first | (exfalso;omega) | (go_ret;exact ⟨retB HV.out.symm,HX.out.vx.bel⟩)
 have h1:¬sc < 0:=fun h=>hbad (.inl h)
 have h2:¬2 < sc:=fun h=>hbad (.inr (.inl h))
 have h3:¬sl < 0:=fun h=>hbad (.inr (.inr (.inl h)))
 have h4:¬128 < sl:=fun h=>hbad (.inr (.inr (.inr (.inl h))))
 have h5:¬4 < dims.length:=fun h=>hbad (.inr (.inr (.inr (.inr h))))
 have HV:Hid (dvarB m n ⟨sc,sl,wh,ty,dims⟩= (dvtB m n ⟨sc,sl,wh,ty,dims⟩ && dims.all (ddimB n))):=Lib.hid (by unfold dvarB varHeadB;rw [decide_eq_false (by exact hbad)];rfl);clear hbad;have HX1:=Lib.hid (HX.out.below (ball (.cells #[.int .i64 wh] 3)));clear HX;go_enter Tryz.func105,Tryz.ntmps105;go_wp2_with fail;refine (belowQ n wh _ _ (new_at (by simp))).mono ?_;rintro e w1 ⟨rfl,rfl⟩;generalize ((w.alloc (.cells CS 29)).alloc (.cells #[.int .i64 sc,.int .i64 sl,.int .i64 wh,.int .i64 ty,.slice o dims.length cap] 145)).alloc (.cells #[.int .i64 wh] 3)=W1 at HX1 ⊢;have x3:W1.cell? ⟨w.heap.size+1,3,none⟩=some (.int .i64 ty):=HX1.out.vx.cell rfl;obtain ⟨u1,hu1⟩:∃u,decide (0≤wh∧wh < n)=u:=⟨_,rfl⟩;rw [hu1];have HU1:=Lib.hid hu1;clear hu1;go_wp2_with (refine wpList_load_row rfl _ _ rfl _ rfl _ CS _ _ HX1.out.mx.bx.box Tryz.underlying29 rfl HX1.out.mx.info ?_);refine (HX1.out.mx.proctype ty).mono ?_;rintro e W2 ⟨rfl,hb2⟩;have HX2:=Lib.hid (HX1.out.below hb2);clear hb2 x3 HX1;have y0:W2.cell? ⟨w.heap.size+1,0,none⟩=some (.int .i64 sc):=HX2.out.vx.cell rfl;have y2:W2.cell? ⟨w.heap.size+1,2,none⟩=some (.int .i64 wh):=HX2.out.vx.cell rfl;have y3:W2.cell? ⟨w.heap.size+1,3,none⟩=some (.int .i64 ty):=HX2.out.vx.cell rfl;obtain ⟨u2,hu2⟩:∃u,ptypeB m ty=u:=⟨_,rfl⟩;rw [hu2];have HU2:=Lib.hid hu2;clear hu2;obtain ⟨t,ht⟩:∃t,dvtB m n ⟨sc,sl,wh,ty,dims⟩=t:=⟨_,rfl⟩;have HT:=Lib.hid ht;clear ht;cases t
 · have HF:Hid (dvarB m n ⟨sc,sl,wh,ty,dims⟩=false):=Lib.hid (by rw [HV.out,HT.out];rfl);by_cases hr:sc=2
   · have hr1: (sc == 2)=true:=by simp [hr]
     have hr2: (sc != 2)=false:=by simp [hr]
     have HQ:Hid ((u1 && u2)=false):=Lib.hid (by rw [←HU1.out,←HU2.out,←HT.out];exact (if_pos hr).symm);clear hr;cases u1
     · go_wp2_with fail;go_ret;exact ⟨retB HF.out.symm,HX2.out.vx.bel⟩
     · cases u2
       · go_wp2_with fail;go_ret;exact ⟨retB HF.out.symm,HX2.out.vx.bel⟩
       · cases HQ.out
   · have hr1: (sc == 2)=false:=by simp [hr]
     have hr2: (sc != 2)=true:=by simp [hr]
     have HQ:Hid (¬ (wh= -1∧ty= -1)):=Lib.hid (by
      have h:=HT.out;unfold dvtB at h;rw [if_neg (by exact hr)] at h;exact of_decide_eq_false h)
     clear hr;by_cases hw:wh= -1
     · have hw1: (wh != -1)=false:=by simp [hw]
       have ht1: (ty != -1)=true:=by rw [bne_iff_ne];exact fun h=>HQ.out ⟨hw,h⟩
       clear hw;go_wp2_with fail;go_ret;exact ⟨retB HF.out.symm,HX2.out.vx.bel⟩
     · have hw1: (wh != -1)=true:=by simp [hw]
       clear hw;go_wp2_with fail;go_ret;exact ⟨retB HF.out.symm,HX2.out.vx.bel⟩
 have HV2:Hid (dvarB m n ⟨sc,sl,wh,ty,dims⟩=dims.all (ddimB n)):=Lib.hid (by rw [HV.out,HT.out];rfl);clear HV;have HC:Hid (((sc == 2)=true∧ (sc != 2)=false∧u1=true∧u2=true)∨ ((sc == 2)=false∧ (sc != 2)=true∧ (wh != -1)=false∧ (ty != -1)=false)):=Lib.hid (by
  have h:=HT.out;unfold dvtB at h;by_cases hr:sc=2
  · rw [if_pos (by exact hr)] at h;simp only [HU1.out,HU2.out,Bool.and_eq_true] at h;exact .inl ⟨by simp [hr],by simp [hr],h⟩
  · rw [if_neg (by exact hr)] at h;have h2:wh= -1∧ty= -1:=of_decide_eq_true h;exact .inr ⟨by simp [hr],by simp [hr],by simp [h2.1],by simp [h2.2]⟩)
 clear HT HU1 HU2;rcases HC.out with ⟨a1,a2,a3,a4⟩ | ⟨a1,a2,a3,a4⟩
 · subst a3 a4;go_wp2_with fail
   go_loopw [9] (fun i wr=>∃k:Nat,i= .int .i64 k∧k≤dims.length∧Hid (∀j (hj:j < dims.length),j < k→ddimB n dims[j]=true)∧Hid (Vx w CS #[.int .i64 sc,.int .i64 sl,.int .i64 wh,.int .i64 ty,.slice o dims.length cap] h m wr)) (fun i _=>dims.length - (intOf i).toNat)
   case atStart=>exact ⟨0,rfl,by omega,Lib.hid fun j _ h=>by omega,HX2⟩
   case round=>
    clear HX2 y0 y2 y3 HC a1 a2;obtain ⟨k,rfl,hk,HD,HX⟩:=hrel;have hk0: (0:Int)≤k:=by omega
    have x4:wr.cell? ⟨w.heap.size+1,4,none⟩=some (.slice o dims.length cap):=HX.out.vx.cell rfl;by_cases hlt:k < dims.length
    · have hlti: (k:Int) < dims.length:=by omega
      obtain ⟨g,off,ho,hg,e0,e1,e2⟩:=HIN.out.cell hlt;obtain ⟨⟨I,L,S⟩,hdd⟩:∃d,dims[k]=d:=⟨_,rfl⟩;rw [hdd] at e0 e1 e2;simp only at e0 e1 e2;have c0:=(HX.out.vx.bel.cell (p:=⟨g,off+k*3,none⟩) hg).trans e0;have c1:=(HX.out.vx.bel.cell (p:=⟨g,off+k*3+1,none⟩) hg).trans e1;have c2:=(HX.out.vx.bel.cell (p:=⟨g,off+k*3+2,none⟩) hg).trans e2;subst ho;have HBAD:Hid (ddimB n ⟨I,L,S⟩=false→dvarB m n ⟨sc,sl,wh,ty,dims⟩=false):=Lib.hid fun h=>by rw [HV2.out,all_bad hlt (by rw [hdd];exact h)]
      have HGO:Hid (ddimB n ⟨I,L,S⟩=true→∀j (hj:j < dims.length),j < k+1→ddimB n dims[j]=true):=Lib.hid fun h j hj hjk=>by
       by_cases e:j=k
       · subst e;rw [hdd];exact h
       · exact HD.out j hj (by omega)
      have HX3:=Lib.hid (HX.out.below ((ball (.cells #[.int .i64 I,.int .i64 L,.int .i64 S] 172)).trans (((ball (.cells #[.int .i64 I] 3))).mono (by simp))));have HQ3:Hid (Bq wr wr.heap.size #[.int .i64 I,.int .i64 L,.int .i64 S] 172 ((wr.alloc (.cells #[.int .i64 I,.int .i64 L,.int .i64 S] 172)).alloc (.cells #[.int .i64 I] 3))):=Lib.hid ((Bq.new (Below.refl _ _) _ _).below (ball _));clear e0 e1 e2 hdd hg;go_wp2_with fail;refine (belowQ n I _ _ (new_at (by simp))).mono ?_;rintro e w3 ⟨rfl,rfl⟩;generalize (wr.alloc (.cells #[.int .i64 I,.int .i64 L,.int .i64 S] 172)).alloc (.cells #[.int .i64 I] 3)=W3 at HX3 HQ3 ⊢;have d1:W3.cell? ⟨wr.heap.size,1,none⟩=some (.int .i64 L):=HQ3.out.cell rfl;have d2:W3.cell? ⟨wr.heap.size,2,none⟩=some (.int .i64 S):=HQ3.out.cell rfl;clear c0 c1 c2 x4;by_cases hI:0≤I∧I < n
      · rw [decide_eq_true hI];by_cases hb:L < 1∨128 < L∨S < 0∨128 < S
        · have HZ:=Lib.hid (HBAD.out (ddim_bad hb));clear hI;go_wp2_with fail
          all_goals first | (exfalso;omega) | (go_ret;exact ⟨retB HZ.out.symm,HX3.out.vx.bel⟩)
        · have HZ:=Lib.hid (HGO.out (ddim_ok hI hb));have i1:¬L < 1:=fun h=>hb (.inl h)
          have i2:¬128 < L:=fun h=>hb (.inr (.inl h))
          have i3:¬S < 0:=fun h=>hb (.inr (.inr (.inl h)))
          have i4:¬128 < S:=fun h=>hb (.inr (.inr (.inr h)))
          clear hI hb;go_wp2_with fail;go_roundw;case rel=>exact ⟨k+1,by go_num,by omega,HZ,HX3⟩
          case measure=>simp [intOf];omega
      · rw [decide_eq_false hI];have HZ:=Lib.hid (HBAD.out (by unfold ddimB;rw [decide_eq_false (by exact hI)];rfl));clear hI;go_wp2_with fail;go_ret;exact ⟨retB HZ.out.symm,HX3.out.vx.bel⟩
    · have hlti:¬ (k:Int) < dims.length:=by omega
      have HZ:Hid (dvarB m n ⟨sc,sl,wh,ty,dims⟩=true):=Lib.hid (by rw [HV2.out];exact all_of fun j hj=>HD.out j hj (by omega));go_wp2_with fail;go_ret;exact ⟨retB HZ.out.symm,HX.out.vx.bel⟩
 · go_wp2_with fail
   go_loopw [9] (fun i wr=>∃k:Nat,i= .int .i64 k∧k≤dims.length∧Hid (∀j (hj:j < dims.length),j < k→ddimB n dims[j]=true)∧Hid (Vx w CS #[.int .i64 sc,.int .i64 sl,.int .i64 wh,.int .i64 ty,.slice o dims.length cap] h m wr)) (fun i _=>dims.length - (intOf i).toNat)
   case atStart=>exact ⟨0,rfl,by omega,Lib.hid fun j _ h=>by omega,HX2⟩
   case round=>
    clear HX2 y0 y2 y3 HC a1 a2 a3 a4;obtain ⟨k,rfl,hk,HD,HX⟩:=hrel;have hk0: (0:Int)≤k:=by omega
    have x4:wr.cell? ⟨w.heap.size+1,4,none⟩=some (.slice o dims.length cap):=HX.out.vx.cell rfl;by_cases hlt:k < dims.length
    · have hlti: (k:Int) < dims.length:=by omega
      obtain ⟨g,off,ho,hg,e0,e1,e2⟩:=HIN.out.cell hlt;obtain ⟨⟨I,L,S⟩,hdd⟩:∃d,dims[k]=d:=⟨_,rfl⟩;rw [hdd] at e0 e1 e2;simp only at e0 e1 e2;have c0:=(HX.out.vx.bel.cell (p:=⟨g,off+k*3,none⟩) hg).trans e0;have c1:=(HX.out.vx.bel.cell (p:=⟨g,off+k*3+1,none⟩) hg).trans e1;have c2:=(HX.out.vx.bel.cell (p:=⟨g,off+k*3+2,none⟩) hg).trans e2;subst ho;have HBAD:Hid (ddimB n ⟨I,L,S⟩=false→dvarB m n ⟨sc,sl,wh,ty,dims⟩=false):=Lib.hid fun h=>by rw [HV2.out,all_bad hlt (by rw [hdd];exact h)]
      have HGO:Hid (ddimB n ⟨I,L,S⟩=true→∀j (hj:j < dims.length),j < k+1→ddimB n dims[j]=true):=Lib.hid fun h j hj hjk=>by
       by_cases e:j=k
       · subst e;rw [hdd];exact h
       · exact HD.out j hj (by omega)
      have HX3:=Lib.hid (HX.out.below ((ball (.cells #[.int .i64 I,.int .i64 L,.int .i64 S] 172)).trans (((ball (.cells #[.int .i64 I] 3))).mono (by simp))));have HQ3:Hid (Bq wr wr.heap.size #[.int .i64 I,.int .i64 L,.int .i64 S] 172 ((wr.alloc (.cells #[.int .i64 I,.int .i64 L,.int .i64 S] 172)).alloc (.cells #[.int .i64 I] 3))):=Lib.hid ((Bq.new (Below.refl _ _) _ _).below (ball _));clear e0 e1 e2 hdd hg;go_wp2_with fail;refine (belowQ n I _ _ (new_at (by simp))).mono ?_;rintro e w3 ⟨rfl,rfl⟩;generalize (wr.alloc (.cells #[.int .i64 I,.int .i64 L,.int .i64 S] 172)).alloc (.cells #[.int .i64 I] 3)=W3 at HX3 HQ3 ⊢;have d1:W3.cell? ⟨wr.heap.size,1,none⟩=some (.int .i64 L):=HQ3.out.cell rfl;have d2:W3.cell? ⟨wr.heap.size,2,none⟩=some (.int .i64 S):=HQ3.out.cell rfl;clear c0 c1 c2 x4;by_cases hI:0≤I∧I < n
      · rw [decide_eq_true hI];by_cases hb:L < 1∨128 < L∨S < 0∨128 < S
        · have HZ:=Lib.hid (HBAD.out (ddim_bad hb));clear hI;go_wp2_with fail
          all_goals first | (exfalso;omega) | (go_ret;exact ⟨retB HZ.out.symm,HX3.out.vx.bel⟩)
        · have HZ:=Lib.hid (HGO.out (ddim_ok hI hb));have i1:¬L < 1:=fun h=>hb (.inl h)
          have i2:¬128 < L:=fun h=>hb (.inr (.inl h))
          have i3:¬S < 0:=fun h=>hb (.inr (.inr (.inl h)))
          have i4:¬128 < S:=fun h=>hb (.inr (.inr (.inr h)))
          clear hI hb;go_wp2_with fail;go_roundw;case rel=>exact ⟨k+1,by go_num,by omega,HZ,HX3⟩
          case measure=>simp [intOf];omega
      · rw [decide_eq_false hI];have HZ:=Lib.hid (HBAD.out (by unfold ddimB;rw [decide_eq_false (by exact hI)];rfl));clear hI;go_wp2_with fail;go_ret;exact ⟨retB HZ.out.symm,HX3.out.vx.bel⟩
    · have hlti:¬ (k:Int) < dims.length:=by omega
      have HZ:Hid (dvarB m n ⟨sc,sl,wh,ty,dims⟩=true):=Lib.hid (by rw [HV2.out];exact all_of fun j hj=>HD.out j hj (by omega));go_wp2_with fail;go_ret;exact ⟨retB HZ.out.symm,HX.out.vx.bel⟩
end Go.Proofs.YtnoibjahliafpaaGreatDoor
namespace Go.Proofs.YtnoibjahliafpaaGreatDoor
open Go.ChangeShapes Go.WideShapes Go.ChangeAt Go.RowKit
set_option maxHeartbeats 1000000 in
set_option maxRecDepth 100000 in
theorem rowH {B:Nat} (l:List Int) (o:Option Addr) (c:Nat) (w:World) (hB:B≤w.heap.size) (hl:Row B o 1 (intAt w) l) (hx:∀v ∈ l,inI v) (hm:l.length≤100000):
 Calls Tryz.prog 66 #[.slice o l.length c] w fun e w'=>e= .returned (strV (rowT l))∧Below w.heap.size w w':=by
 have HH:=Lib.hid (And.intro hB (And.intro hl (And.intro hx hm)));clear hB hl hx;unfold strV;go_enter Tryz.func66,Tryz.ntmps66;go_wp2_with fail
 go_loopw [3,4] (fun sv iv W=>∃i:Nat,iv= .int .i64 i∧i≤l.length∧sv= .string ⟨(rowT (l.take i)).toArray⟩∧Hid (Below w.heap.size w W)) (fun _ iv _=>l.length - (intOf iv).toNat)
 case atStart=>exact ⟨0,rfl,by omega,rfl,Lib.hid (Below.refl _ _)⟩
 case round=>
  obtain ⟨i,rfl,hi,rfl,HBW⟩:=hrel;have hi0: (0:Int)≤i:=by omega
  by_cases hlt:i < l.length
  · have hlti: (i:Int) < l.length:=by omega
    obtain ⟨h1,h2,h3,h4⟩:=HH.out;obtain ⟨g,off,ho,hg,e1⟩:=(h2.mono fun _ _ _ hg=>intAt.below (HBW.out.mono h1) hg).cell hlt;obtain ⟨v,hv⟩:∃v,l[i]=v:=⟨_,rfl⟩;rw [hv] at e1;unfold intAt at e1;rw [Nat.mul_one] at e1;subst ho;have hvi:inI v:=h3 v (by rw [←hv];exact List.getElem_mem hlt);have HD:=Lib.hid (decimalC v wr hvi);unfold strV at HD;have HN:Hid (rowT (l.take (i+1))=rowT (l.take i) ++ (Lib.itoa v ++ [44])):=Lib.hid (by
     rw [List.take_succ_eq_append_getElem hlt,hv];simp only [rowT_append,rowT_one])
    have hr:=rowT_len (l:=l.take i) fun x hx=>h3 x (List.mem_of_mem_take hx)
    have hi20:=itoa20 hvi;have htl: (l.take i).length≤100000:=by rw [List.length_take];omega
    obtain ⟨R,hR⟩:∃R,rowT (l.take i)=R:=⟨_,rfl⟩;obtain ⟨D,hD⟩:∃D,Lib.itoa v=D:=⟨_,rfl⟩;rw [hR] at HN hr ⊢;rw [hD] at HN hi20 HD;have hs1:¬9223372036854775807 < R.length+D.length:=by omega
    have hs2:¬9223372036854775807 < R.length+D.length+1:=by omega
    have hs3:¬9223372036854775807 < R.length+ (D.length+1):=by omega
    clear h1 h2 h3 h4 hg hv hvi hr hi20 htl hR hD;go_wp2_with fail;refine HD.out.mono ?_;rintro e W2 ⟨rfl,hb2⟩;have HB2:Hid (Below w.heap.size w W2):=Lib.hid (HBW.out.trans (hb2.mono HBW.out.size));clear hb2 e1;go_wp2_with fail;go_roundw;case rel=>exact ⟨i+1,by go_num,by omega,by rw [HN.out];congr 1;rw [str_add];simp [ByteArray.append],HB2⟩
    case measure=>simp [intOf];omega
  · have hlti:¬ (i:Int) < l.length:=by omega
    go_wp2_with fail;go_ret;exact ⟨by (rw [List.take_of_length_le (by omega)]) <;> rfl,HBW.out⟩
end Go.Proofs.YtnoibjahliafpaaGreatDoor
namespace Go.Proofs.YtnoibjahliafpaaGreatDoor
open Go.ChangeShapes Go.WideShapes Go.ChangeAt Go.RowKit
theorem zip_get2 {α β:Type} {a:List α} {b:List β} {k:Nat} (h1:k < a.length) (h2:k < b.length):∃hz:k < (a.zip b).length,(a.zip b)[k]= (a[k],b[k]):=⟨by rw [List.length_zip];omega,by simp⟩
set_option maxHeartbeats 2000000 in
set_option maxRecDepth 100000 in
theorem sfitsC {B:Nat} (t:List (Int × Bool)) (l:List Int) (o1 o2:Option Addr) (p1 p2:Nat) (w:World) (hB:B≤w.heap.size) (h1:Row B o1 2 (tyAt w) t) (h2:Row B o2 1 (intAt w) l):
 Calls Tryz.prog 59 #[.slice o1 t.length p1,.slice o2 l.length p2] w fun e w'=>e= .returned (.bool (fitsL t l))∧Below w.heap.size w w':=by
 have HR:=Lib.hid (And.intro h1 h2);have l1:=h1.1;have l2:=h2.1;clear h1 h2;by_cases hne:l.length=t.length
 · have HV:Hid (fitsL t l= (t.zip l).all fitZ):=Lib.hid (by unfold fitsL;rw [decide_eq_true hne];rfl);have hnb: ((l.length:Int) != (t.length:Int))=false:=by rw [bne_eq_false_iff_eq];omega
   have HNE:=Lib.hid hne;have m1: (l.length:Int)≤t.length:=by omega
   have m2: (t.length:Int)≤l.length:=by omega
   clear hne;go_enter Tryz.func59,Tryz.ntmps59;go_wp2_with fail
   go_loopw [14] (fun iv W=>∃i:Nat,iv= .int .i64 i∧i≤t.length∧Hid (∀j (hj:j < (t.zip l).length),j < i→fitZ (t.zip l)[j]=true)∧Hid (Below w.heap.size w W)) (fun iv _=>t.length - (intOf iv).toNat)
   case atStart=>exact ⟨0,rfl,by omega,Lib.hid fun j _ h=>by omega,Lib.hid (Below.refl _ _)⟩
   case round=>
    obtain ⟨i,rfl,hi,HJ,HB⟩:=hrel;have hi0: (0:Int)≤i:=by omega
    by_cases hlt:i < t.length
    · have hlti: (i:Int) < t.length:=by omega
      have hlt2:i < l.length:=by have:=HNE.out;omega
      have hlti2: (i:Int) < l.length:=by omega
      obtain ⟨g1,off1,ho1,hg1,t0,t1⟩:=(HR.out.1.mono fun _ _ _ hg=>tyAt.below (HB.out.mono hB) hg).cell hlt;obtain ⟨g2,off2,ho2,hg2,e2⟩:=(HR.out.2.mono fun _ _ _ hg=>intAt.below (HB.out.mono hB) hg).cell hlt2;subst ho1 ho2;obtain ⟨⟨b,sg⟩,hbs⟩:∃q,t[i]=q:=⟨_,rfl⟩;obtain ⟨v,hv⟩:∃q,l[i]=q:=⟨_,rfl⟩;obtain ⟨hz,hzip⟩:=zip_get2 hlt hlt2;rw [hbs,hv] at hzip;rw [hbs] at t0 t1;have HBAD:Hid (fitB b sg v=false→fitsL t l=false):=Lib.hid fun h=>by rw [HV.out,all_bad hz (by rw [hzip];exact h)]
      have HGO:Hid (fitB b sg v=true→∀j (hj:j < (t.zip l).length),j < i+1→fitZ (t.zip l)[j]=true):=Lib.hid fun h j hj hjk=>by
       by_cases e:j=i
       · subst e;rw [hzip];exact h
       · exact HJ.out j hj (by omega)
      have e3:wr.cell? ⟨g2,off2+i,none⟩=some (.int .i64 v):=by
       have:=e2;unfold intAt at this;rw [Nat.mul_one,hv] at this;exact this
      have hc1:=Lib.cell?_alloc_some (Obj.cells #[.int .i64 b,.bool sg] 74) e3;simp only at t0 t1;have HX:=Lib.hid (Bx.new wr #[.int .i64 b,.bool sg] 74);have HB1:=Lib.hid (HB.out.trans ((ball (Obj.cells #[.int .i64 b,.bool sg] 74)).mono HB.out.size));clear hbs hv e2 hz hzip;go_wp2_with fail;generalize wr.alloc (Obj.cells #[.int .i64 b,.bool sg] 74)=W at hc1 HX HB1 ⊢;have x1:W.cell? ⟨wr.heap.size,0,none⟩=some (.int .i64 b):=HX.out.cell rfl;have x2:W.cell? ⟨wr.heap.size,1,none⟩=some (.bool sg):=HX.out.cell rfl;go_still_tail 5,(by kernel_rfl);change wpList _ _ _ _ _ W.drew;have HB2:Hid (Below w.heap.size w W.drew):=Lib.hid HB1.out.drew;generalize W.drew=W2 at HB2 ⊢;clear x1 x2 hc1 t0 t1 e3;go_wp2_with fail;refine (fitsC b sg v W2).mono ?_;rintro e W3 ⟨rfl,hb3⟩;have HB3:=Lib.hid (HB2.out.trans (hb3.mono HB2.out.size));clear hb3;obtain ⟨u,hu⟩:∃u,fitB b sg v=u:=⟨_,rfl⟩;rw [hu];have HU:=Lib.hid hu;clear hu;cases u
      · have HZ:=Lib.hid (HBAD.out HU.out);go_wp2_with fail;go_ret;exact ⟨retB HZ.out.symm,HB3.out⟩
      · have HZ:=Lib.hid (HGO.out HU.out);go_wp2_with fail;go_roundw;case rel=>exact ⟨i+1,by go_num,by omega,HZ,HB3⟩
        case measure=>simp [intOf];omega
    · have hlti:¬ (i:Int) < t.length:=by omega
      have HA:Hid (fitsL t l=true):=Lib.hid (by rw [HV.out];exact all_of fun j hj=>HJ.out j hj (by rw [List.length_zip] at hj;omega));go_wp2_with fail;go_ret;exact ⟨retB HA.out.symm,HB.out⟩
 · have HV:Hid (fitsL t l=false):=Lib.hid (by unfold fitsL;rw [decide_eq_false hne];rfl);have hnb: ((l.length:Int) != (t.length:Int))=true:=by rw [bne_iff_ne];omega
   clear hne;go_enter Tryz.func59,Tryz.ntmps59;go_wp2_with fail;go_ret;exact ⟨retB HV.out.symm,Below.refl _ _⟩
end Go.Proofs.YtnoibjahliafpaaGreatDoor
