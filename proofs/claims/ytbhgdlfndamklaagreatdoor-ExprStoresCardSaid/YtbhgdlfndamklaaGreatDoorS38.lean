/- Contracts of the document's Fit, Two, One. -/
import Derived.Test.YtbhgdlfndamklaaGreatDoorS15
set_option linter.unusedVariables false
set_option linter.unusedSimpArgs false
namespace Go.Proofs.YtbhgdlfndamklaaGreatDoor.val
open Go.ChangeShapes Go.WideShapes Go.ChangeAt Go.RowKit
set_option maxHeartbeats 400000 in
theorem rfit_x (b v:Int) (s:Bool) (w:World):
 Calls Tryz.prog 33 #[.agg #[.int .i64 b,.bool s],.int .i64 v] w fun e w'=>e= .returned (.int .i64 (fitI b s v))∧w'= (w.alloc (.cells #[.int .i64 b,.bool s] 61)).alloc (.cells #[.int .i64 b,.bool s] 61):=by
 by_cases h:b < 1∨32 < b
 · have hf:fitI b s v=0:=by unfold fitI;rw [if_pos h]
   have HF:=Lib.hid hf;clear hf;rcases h with h | h
   · go_enter Tryz.func33,Tryz.ntmps33;go_wp2;go_ret;exact ⟨ret_int HF.out.symm,rfl⟩
   · have h':1≤b:=by omega
     have h3:decide (b≤32)=false:=by simp;omega
     go_enter Tryz.func33,Tryz.ntmps33;go_wp2;go_ret;exact ⟨ret_int HF.out.symm,rfl⟩
 · have h1:1≤b:=by omega
   have h2:b≤32:=by omega
   obtain ⟨H,p1,p2,p3,p4⟩:=pows b h1 h2;have hf:fitI b s v=if s=true∧H≤v % (2*H) then v % (2*H) - 2*H else v % (2*H):=by unfold fitI;rw [if_neg h,p1,p2]
   have q1:=Int.emod_nonneg v (show (2*H:Int)≠0 by omega);have q2:=Int.emod_lt_of_pos v (show (0:Int) < 2*H by omega);have t1:v.tmod (2*H)=v % (2*H)∨ (v.tmod (2*H)=v % (2*H) - 2*H∧v.tmod (2*H) < 0):=by
    by_cases hs:0≤v
    · exact .inl (Int.tmod_eq_emod_of_nonneg hs)
    · by_cases hd:v % (2*H)=0
      · left;rw [hd];exact Int.tmod_eq_zero_of_dvd (Int.dvd_of_emod_eq_zero hd)
      · right;have :v.tmod (2*H)=v % (2*H) - 2*H:=by
         rw [Int.tmod_eq_emod,if_neg]
         · have : ((2*H).natAbs:Int)=2*H:=by omega
           omega
         · intro hc;rcases hc with hc | hc
           · exact hs hc
           · exact hd (Int.emod_eq_zero_of_dvd hc)
        exact ⟨this,by omega⟩
   generalize v % (2*H)=L at*;have hm:wrap64 (2 ^ b.toNat)=2*H:=by rw [p2];exact w64 _ (by omega)
   have hne: ((2*H:Int) == 0)=false:=by simp;omega
   have HF:=Lib.hid hf;have hH:0 < 2*H:=by omega
   clear hf p1 p2 h;rcases t1 with t1 | ⟨t1,t2⟩ <;> cases s
   all_goals
    go_enter Tryz.func33,Tryz.ntmps33;go_wp2
   all_goals
    go_ret;exact ⟨ret_int (by rw [HF.out];split <;> first | rfl | omega | simp_all),rfl⟩
theorem rfit_any (b v:Int) (s:Bool) (w:World):
 Calls Tryz.prog 33 #[.agg #[.int .i64 b,.bool s],.int .i64 v] w fun e w'=>e= .returned (.int .i64 (fitI b s v))∧Below w.heap.size w w':=
 (rfit_x b v s w).mono fun _ _ ⟨he,hw⟩=>⟨he,by rw [hw];exact ((Below.refl _ _).alloc (Nat.le_refl _) _).alloc (by simp) _⟩
theorem rint_any (v:Int) (w:World):
 Calls Tryz.prog 50 #[.int .i64 v] w fun e w'=>e= .returned (.int .i64 (wrap32 v))∧Below w.heap.size w w':=by
 have HF:=Lib.hid (fit_32 v);go_enter Tryz.func50,Tryz.ntmps50;go_wp2_with (go_at_call 33;refine (rfit_any _ _ _ _).mono ?_;rintro e w' ⟨rfl,hb⟩);go_ret;exact ⟨ret_int HF.out,hb⟩
theorem rint_as (v A:Int) (h:Hid (wrap32 v=A)) (w0 w:World) (hb:Below w0.heap.size w0 w):
 Calls Tryz.prog 50 #[.int .i64 v] w fun e w'=>e= .returned (.int .i64 A)∧Below w0.heap.size w0 w':=
 (rint_any v w).mono fun _ _ ⟨he,hb'⟩=>⟨by rw [he,h.out],hb.trans (hb'.mono hb.size)⟩
set_option maxHeartbeats 1000000 in
theorem shift_left (a p:Int) (w0 w:World) (ha: -2147483648≤a∧a≤2147483647) (hp:0≤p∧p≤2147483648) (hb:Below w0.heap.size w0 w):
 Calls Tryz.prog 54 #[.int .i64 a,.int .i64 p] w fun e w'=>e= .returned (.int .i64 (wrap32 (shI a p)))∧Below w0.heap.size w0 w':=by
 have HF:=Lib.hid (sh_left a p hp.1);go_enter Tryz.func54,Tryz.ntmps54;go_wp2
 go_loopw [0,1] (fun x y wr=>∃k:Nat,(k:Int)≤p∧y= .int .i64 (p - k)∧x= .int .i64 (wrap32 (a*2 ^ k))∧Below w0.heap.size w0 wr) (fun _ y _=>(intOf y).toNat)
 case atStart=>exact ⟨0,hp.1,by simp,by simp [wrap32_in a ha],hb⟩
 case round=>
  obtain ⟨k,hk,rfl,rfl,hb⟩:=hrel;have hs:=Lib.hid (shl_step a k);have hr:=wrap32_range (a*2 ^ k);obtain ⟨X,hX⟩:∃X,wrap32 (a*2 ^ k)=X:=⟨_,rfl⟩;have HX:=Lib.hid hX;rw [hX] at hr hs;rw [hX];clear hX;by_cases hc:0 < p - k∧¬X=0
  · obtain ⟨hc,hx⟩:=hc;have hne: (X != 0)=true:=by simp [hx]
    clear hx;go_wp2_with (go_at_call 50;refine (rint_as _ _ hs _ _ hb).mono ?_;rintro e w' ⟨rfl,hb1⟩);go_roundw;case rel=>exact ⟨k+1,by omega,by go_num,rfl,hb1⟩
    case measure=>simp [intOf];omega
  · have hz:Hid (X=wrap32 (shI a p)):=by
     by_cases hx:X=0
     · exact Lib.hid (by rw [HF.out,shl_zero a k p.toNat (by rw [HX.out,hx]) (by omega),hx])
     · exact Lib.hid (by rw [HF.out,←HX.out];congr 3;omega)
    by_cases h1:0 < p - k
    all_goals
     first
      | (have hne: (X != 0)=false:=by simp;omega)
      | skip
     clear hc;go_wp2
     go_loopw [0,1] (fun x y wx=>x= .int .i64 X∧y= .int .i64 (p - k)∧wx=wr) (fun _ _ _=>0)
     case atStart=>exact ⟨rfl,rfl,rfl⟩
     case round=>
      obtain ⟨rfl,rfl,rfl⟩:=hrel;have hge:¬p - k < 0:=by omega
      go_wp2;go_ret;exact ⟨ret_int hz.out,hb⟩
set_option maxHeartbeats 1000000 in
theorem shift_right (a p:Int) (w0 w:World) (ha: -2147483648≤a∧a≤2147483647) (hp: -2147483648≤p∧p < 0) (hb:Below w0.heap.size w0 w):
 Calls Tryz.prog 54 #[.int .i64 a,.int .i64 p] w fun e w'=>e= .returned (.int .i64 (wrap32 (shI a p)))∧Below w0.heap.size w0 w':=by
 have HF:=Lib.hid (sh_right a p hp.2 ha);go_enter Tryz.func54,Tryz.ntmps54;go_wp2
 go_loopw [0,1] (fun x y wx=>x= .int .i64 a∧y= .int .i64 p∧wx=w) (fun _ _ _=>0)
 case atStart=>exact ⟨rfl,rfl,rfl⟩
 case round=>
  obtain ⟨rfl,rfl,rfl⟩:=hrel;have hng:¬0 < p:=by omega
  go_wp2
  go_loopw [0,1] (fun x y wx=>∃k:Nat,p+k≤0∧y= .int .i64 (p+k)∧x= .int .i64 (a / 2 ^ k)∧wx=wr) (fun _ y _=>(- intOf y).toNat)
  case atStart=>exact ⟨0,by omega,by simp,by simp,rfl⟩
  case round=>
   obtain ⟨k,hk,rfl,rfl,rfl⟩:=hrel;have hs:=Lib.hid (shr_step a k);have hr:=shr_range a k ha;have hst:=Lib.hid (shr_stays a k (-p).toNat);obtain ⟨X,hX⟩:∃X,a / 2 ^ k=X:=⟨_,rfl⟩;have HX:=Lib.hid hX;rw [hX] at hr hs hst;rw [hX];clear hX;have hh:=half X;have hz: (p+k < 0∧¬X=0∧¬X= -1)∨ (¬ (p+k < 0∧¬X=0∧¬X= -1)∧Hid (X=wrap32 (shI a p))):=by
    by_cases h1:p+k < 0
    · by_cases h2:X=0∨X= -1
      · exact .inr ⟨by omega,Lib.hid (by rw [HF.out,hst.out h2 (by omega)])⟩
      · exact .inl (by omega)
    · exact .inr ⟨by omega,Lib.hid (by rw [HF.out,←HX.out];congr 2;omega)⟩
   rcases hz with ⟨h1,h2,h3⟩ | ⟨hno,hz⟩
   · have hne: (X != 0)=true:=by simp [h2]
     have hne1: (X != -1)=true:=by simp [h3]
     by_cases hneg:X < 0
     · have hd:=Lib.hid (hh.1 hneg);clear hh h2 h3;go_wp2;go_roundw;case rel=>exact ⟨k+1,by omega,by go_num,by rw [hs.out,hd.out],trivial⟩
       case measure=>simp [intOf];omega
     · have hd:=Lib.hid (hh.2 (by omega));clear hh h2 h3;go_wp2;go_roundw;case rel=>exact ⟨k+1,by omega,by go_num,by rw [hs.out],trivial⟩
       case measure=>simp [intOf];omega
   · clear hh;by_cases h1:p+k < 0
     · by_cases h2:X=0
       · have hne: (X != 0)=false:=by simp [h2]
         have H2:=Lib.hid h2;clear h2 hno;go_wp2;go_ret;exact ⟨ret_int hz.out,hb⟩
       · have h3:X= -1:=by omega
         have hne: (X != 0)=true:=by simp [h2]
         have hne1: (X != -1)=false:=by simp [h3]
         have H3:=Lib.hid h3;clear h2 h3 hno;go_wp2;go_ret;exact ⟨ret_int hz.out,hb⟩
     · clear hno;go_wp2;go_ret;exact ⟨ret_int hz.out,hb⟩
theorem shift_as (a p:Int) (w0 w:World) (ha: -2147483648≤a∧a≤2147483647) (hp: -2147483648≤p∧p≤2147483648) (hb:Below w0.heap.size w0 w):
 Calls Tryz.prog 54 #[.int .i64 a,.int .i64 p] w fun e w'=>e= .returned (.int .i64 (wrap32 (shI a p)))∧Below w0.heap.size w0 w':=by
 by_cases h:0≤p
 · exact shift_left a p w0 w ha ⟨h,hp.2⟩ hb
 · exact shift_right a p w0 w ha ⟨hp.1,by omega⟩ hb
theorem rint_w (v:Int) (w0 w:World) (hb:Below w0.heap.size w0 w):
 Calls Tryz.prog 50 #[.int .i64 v] w fun e w'=>e= .returned (.int .i64 (wrap32 v))∧Below w0.heap.size w0 w':=rint_as v _ (Lib.hid rfl) w0 w hb
set_option maxHeartbeats 1000000 in
theorem rtwo_6_any (a b:Int) (w:World):Two 28 6 a b w:=by
 have h:=two_6 a b;have r1:=wrap32_range a;have r2:=wrap32_range b;obtain ⟨A,hA⟩:∃A,wrap32 a=A:=⟨_,rfl⟩;obtain ⟨B,hB⟩:∃A,wrap32 b=A:=⟨_,rfl⟩;have HA:=Lib.hid hA;have HB:=Lib.hid hB;rw [hA,hB] at h;rw [hA] at r1;rw [hB] at r2;have r:=mul_range A B r1 r2;clear hA hB;unfold Two;have HF:=Lib.hid (pair h);have hb0:=Below.refl w.heap.size w;clear h;go_enter Tryz.func28,Tryz.ntmps28;go_wp2_with (first | (go_at_call 50;refine (rint_as _ _ (by assumption) _ _ (by assumption)).mono ?_;rintro e w' ⟨rfl,hb1⟩) | (go_at_call 50;refine (rint_w _ _ _ (by assumption)).mono ?_;rintro e w' ⟨rfl,hb1⟩));go_ret2;exact ⟨HF.out,by assumption⟩
set_option maxHeartbeats 1000000 in
theorem rtwo_7_any (a b:Int) (w:World) (h0:¬wrap32 b=0):Two 28 7 a b w:=by
 have h:=two_7 a b h0;have r1:=wrap32_range a;have r2:=wrap32_range b;obtain ⟨A,hA⟩:∃A,wrap32 a=A:=⟨_,rfl⟩;obtain ⟨B,hB⟩:∃A,wrap32 b=A:=⟨_,rfl⟩;have HA:=Lib.hid hA;have HB:=Lib.hid hB;rw [hA,hB] at h;rw [hA] at r1;rw [hB] at r2;have hB0:¬B=0:=by rw [←hB];exact h0
 have hbq: (B == 0)=false:=by rw [beq_eq_false_iff_ne];exact hB0
 have q:=tdiv_range A B r1;have hq:=w64 (A.tdiv B) (by omega);have q2:=tmod_range A B r2 hB0;have hq2:=w64 (A.tmod B) (by omega);clear h0;clear hA hB;unfold Two;have HF:=Lib.hid (pair h);have hb0:=Below.refl w.heap.size w;clear h;go_enter Tryz.func28,Tryz.ntmps28;go_wp2_with (first | (go_at_call 50;refine (rint_as _ _ (by assumption) _ _ (by assumption)).mono ?_;rintro e w' ⟨rfl,hb1⟩) | (go_at_call 50;refine (rint_w _ _ _ (by assumption)).mono ?_;rintro e w' ⟨rfl,hb1⟩));go_ret2;exact ⟨HF.out,by assumption⟩
set_option maxHeartbeats 1000000 in
theorem rtwo_8_any (a b:Int) (w:World) (h0:¬wrap32 b=0):Two 28 8 a b w:=by
 have h:=two_8 a b h0;have r1:=wrap32_range a;have r2:=wrap32_range b;obtain ⟨A,hA⟩:∃A,wrap32 a=A:=⟨_,rfl⟩;obtain ⟨B,hB⟩:∃A,wrap32 b=A:=⟨_,rfl⟩;have HA:=Lib.hid hA;have HB:=Lib.hid hB;rw [hA,hB] at h;rw [hA] at r1;rw [hB] at r2;have hB0:¬B=0:=by rw [←hB];exact h0
 have hbq: (B == 0)=false:=by rw [beq_eq_false_iff_ne];exact hB0
 have q:=tdiv_range A B r1;have hq:=w64 (A.tdiv B) (by omega);have q2:=tmod_range A B r2 hB0;have hq2:=w64 (A.tmod B) (by omega);clear h0;clear hA hB;unfold Two;have HF:=Lib.hid (pair h);have hb0:=Below.refl w.heap.size w;clear h;go_enter Tryz.func28,Tryz.ntmps28;go_wp2_with (first | (go_at_call 50;refine (rint_as _ _ (by assumption) _ _ (by assumption)).mono ?_;rintro e w' ⟨rfl,hb1⟩) | (go_at_call 50;refine (rint_w _ _ _ (by assumption)).mono ?_;rintro e w' ⟨rfl,hb1⟩));go_ret2;exact ⟨HF.out,by assumption⟩
set_option maxHeartbeats 1000000 in
theorem rtwo_9_any (a b:Int) (w:World):Two 28 9 a b w:=by
 have h:=two_9 a b;have r1:=wrap32_range a;have r2:=wrap32_range b;obtain ⟨A,hA⟩:∃A,wrap32 a=A:=⟨_,rfl⟩;obtain ⟨B,hB⟩:∃A,wrap32 b=A:=⟨_,rfl⟩;have HA:=Lib.hid hA;have HB:=Lib.hid hB;rw [hA,hB] at h;rw [hA] at r1;rw [hB] at r2;clear hA hB;unfold Two;have HF:=Lib.hid (pair h);have hb0:=Below.refl w.heap.size w;clear h;go_enter Tryz.func28,Tryz.ntmps28;go_wp2_with (first | (go_at_call 50;refine (rint_as _ _ (by assumption) _ _ (by assumption)).mono ?_;rintro e w' ⟨rfl,hb1⟩) | (go_at_call 50;refine (rint_w _ _ _ (by assumption)).mono ?_;rintro e w' ⟨rfl,hb1⟩));go_ret2;exact ⟨HF.out,by assumption⟩
set_option maxHeartbeats 1000000 in
theorem rtwo_10_any (a b:Int) (w:World):Two 28 10 a b w:=by
 have h:=two_10 a b;have r1:=wrap32_range a;have r2:=wrap32_range b;obtain ⟨A,hA⟩:∃A,wrap32 a=A:=⟨_,rfl⟩;obtain ⟨B,hB⟩:∃A,wrap32 b=A:=⟨_,rfl⟩;have HA:=Lib.hid hA;have HB:=Lib.hid hB;rw [hA,hB] at h;rw [hA] at r1;rw [hB] at r2;clear hA hB;unfold Two;have HF:=Lib.hid (pair h);have hb0:=Below.refl w.heap.size w;clear h;go_enter Tryz.func28,Tryz.ntmps28;go_wp2_with (first | (go_at_call 50;refine (rint_as _ _ (by assumption) _ _ (by assumption)).mono ?_;rintro e w' ⟨rfl,hb1⟩) | (go_at_call 50;refine (rint_w _ _ _ (by assumption)).mono ?_;rintro e w' ⟨rfl,hb1⟩));go_ret2;exact ⟨HF.out,by assumption⟩
set_option maxHeartbeats 1000000 in
theorem rtwo_11_any (a b:Int) (w:World):Two 28 11 a b w:=by
 have h:=two_11 a b;have r1:=wrap32_range a;have r2:=wrap32_range b;obtain ⟨A,hA⟩:∃A,wrap32 a=A:=⟨_,rfl⟩;obtain ⟨B,hB⟩:∃A,wrap32 b=A:=⟨_,rfl⟩;have HA:=Lib.hid hA;have HB:=Lib.hid hB;rw [hA,hB] at h;rw [hA] at r1;rw [hB] at r2;clear hA hB;unfold Two;have HF:=Lib.hid (pair h);have hb0:=Below.refl w.heap.size w;clear h;go_enter Tryz.func28,Tryz.ntmps28;go_wp2_with (first | (go_at_call 50;refine (rint_as _ _ (by assumption) _ _ (by assumption)).mono ?_;rintro e w' ⟨rfl,hb1⟩) | (go_at_call 50;refine (rint_w _ _ _ (by assumption)).mono ?_;rintro e w' ⟨rfl,hb1⟩) | (go_at_call 54;refine (shift_as _ _ _ _ (by omega) (by omega) (by assumption)).mono ?_;rintro e w' ⟨rfl,hb1⟩));go_ret2;exact ⟨HF.out,by assumption⟩
set_option maxHeartbeats 1000000 in
theorem rtwo_12_any (a b:Int) (w:World):Two 28 12 a b w:=by
 have h:=two_12 a b;have r1:=wrap32_range a;have r2:=wrap32_range b;obtain ⟨A,hA⟩:∃A,wrap32 a=A:=⟨_,rfl⟩;obtain ⟨B,hB⟩:∃A,wrap32 b=A:=⟨_,rfl⟩;have HA:=Lib.hid hA;have HB:=Lib.hid hB;rw [hA,hB] at h;rw [hA] at r1;rw [hB] at r2;clear hA hB;unfold Two;have HF:=Lib.hid (pair h);have hb0:=Below.refl w.heap.size w;clear h;go_enter Tryz.func28,Tryz.ntmps28;go_wp2_with (first | (go_at_call 50;refine (rint_as _ _ (by assumption) _ _ (by assumption)).mono ?_;rintro e w' ⟨rfl,hb1⟩) | (go_at_call 50;refine (rint_w _ _ _ (by assumption)).mono ?_;rintro e w' ⟨rfl,hb1⟩) | (go_at_call 54;refine (shift_as _ _ _ _ (by omega) (by omega) (by assumption)).mono ?_;rintro e w' ⟨rfl,hb1⟩));go_ret2;exact ⟨HF.out,by assumption⟩
set_option maxHeartbeats 1000000 in
theorem rtwo_19_any (a b:Int) (w:World):Two 28 19 a b w:=by
 have h:=two_19 a b;have r1:=wrap32_range a;have r2:=wrap32_range b;obtain ⟨A,hA⟩:∃A,wrap32 a=A:=⟨_,rfl⟩;obtain ⟨B,hB⟩:∃A,wrap32 b=A:=⟨_,rfl⟩;have HA:=Lib.hid hA;have HB:=Lib.hid hB;rw [hA,hB] at h;rw [hA] at r1;rw [hB] at r2;clear hA hB;unfold Two;have HF:=Lib.hid (pair h);have hb0:=Below.refl w.heap.size w;clear h;go_enter Tryz.func28,Tryz.ntmps28;go_wp2_with (first | (go_at_call 50;refine (rint_as _ _ (by assumption) _ _ (by assumption)).mono ?_;rintro e w' ⟨rfl,hb1⟩) | (go_at_call 50;refine (rint_w _ _ _ (by assumption)).mono ?_;rintro e w' ⟨rfl,hb1⟩));go_ret2;exact ⟨HF.out,by assumption⟩
set_option maxHeartbeats 1000000 in
theorem rtwo_20_any (a b:Int) (w:World):Two 28 20 a b w:=by
 have h:=two_20 a b;have r1:=wrap32_range a;have r2:=wrap32_range b;obtain ⟨A,hA⟩:∃A,wrap32 a=A:=⟨_,rfl⟩;obtain ⟨B,hB⟩:∃A,wrap32 b=A:=⟨_,rfl⟩;have HA:=Lib.hid hA;have HB:=Lib.hid hB;rw [hA,hB] at h;rw [hA] at r1;rw [hB] at r2;clear hA hB;unfold Two;have HF:=Lib.hid (pair h);have hb0:=Below.refl w.heap.size w;clear h;go_enter Tryz.func28,Tryz.ntmps28;go_wp2_with (first | (go_at_call 50;refine (rint_as _ _ (by assumption) _ _ (by assumption)).mono ?_;rintro e w' ⟨rfl,hb1⟩) | (go_at_call 50;refine (rint_w _ _ _ (by assumption)).mono ?_;rintro e w' ⟨rfl,hb1⟩));go_ret2;exact ⟨HF.out,by assumption⟩
set_option maxHeartbeats 1000000 in
theorem rtwo_21_any (a b:Int) (w:World):Two 28 21 a b w:=by
 have h:=two_21 a b;have r1:=wrap32_range a;have r2:=wrap32_range b;obtain ⟨A,hA⟩:∃A,wrap32 a=A:=⟨_,rfl⟩;obtain ⟨B,hB⟩:∃A,wrap32 b=A:=⟨_,rfl⟩;have HA:=Lib.hid hA;have HB:=Lib.hid hB;rw [hA,hB] at h;rw [hA] at r1;rw [hB] at r2;clear hA hB;unfold Two;have HF:=Lib.hid (pair h);have hb0:=Below.refl w.heap.size w;clear h;go_enter Tryz.func28,Tryz.ntmps28;go_wp2_with (first | (go_at_call 50;refine (rint_as _ _ (by assumption) _ _ (by assumption)).mono ?_;rintro e w' ⟨rfl,hb1⟩) | (go_at_call 50;refine (rint_w _ _ _ (by assumption)).mono ?_;rintro e w' ⟨rfl,hb1⟩));go_ret2;exact ⟨HF.out,by assumption⟩
set_option maxHeartbeats 1000000 in
theorem rtwo_7z_any (a b:Int) (w:World) (h0:wrap32 b=0):Two 28 7 a b w:=by
 have h:=two_7z a b h0;obtain ⟨A,hA⟩:∃A,wrap32 a=A:=⟨_,rfl⟩;have HA:=Lib.hid hA;have HB:=Lib.hid h0;clear hA h0;unfold Two;have HF:=Lib.hid (pair h);have hb0:=Below.refl w.heap.size w;clear h;go_enter Tryz.func28,Tryz.ntmps28;go_wp2_with (first | (go_at_call 50;refine (rint_as _ _ (by assumption) _ _ (by assumption)).mono ?_;rintro e w' ⟨rfl,hb1⟩) | (go_at_call 50;refine (rint_w _ _ _ (by assumption)).mono ?_;rintro e w' ⟨rfl,hb1⟩));go_ret2;exact ⟨HF.out,by assumption⟩
set_option maxHeartbeats 1000000 in
theorem rtwo_8z_any (a b:Int) (w:World) (h0:wrap32 b=0):Two 28 8 a b w:=by
 have h:=two_8z a b h0;obtain ⟨A,hA⟩:∃A,wrap32 a=A:=⟨_,rfl⟩;have HA:=Lib.hid hA;have HB:=Lib.hid h0;clear hA h0;unfold Two;have HF:=Lib.hid (pair h);have hb0:=Below.refl w.heap.size w;clear h;go_enter Tryz.func28,Tryz.ntmps28;go_wp2_with (first | (go_at_call 50;refine (rint_as _ _ (by assumption) _ _ (by assumption)).mono ?_;rintro e w' ⟨rfl,hb1⟩) | (go_at_call 50;refine (rint_w _ _ _ (by assumption)).mono ?_;rintro e w' ⟨rfl,hb1⟩));go_ret2;exact ⟨HF.out,by assumption⟩
set_option maxHeartbeats 1000000 in
theorem rtwo_13_any (a b:Int) (w:World):Two 28 13 a b w:=by
 have h:=two_13 a b;have r1:=wrap32_range a;have r2:=wrap32_range b;obtain ⟨A,hA⟩:∃A,wrap32 a=A:=⟨_,rfl⟩;obtain ⟨B,hB⟩:∃A,wrap32 b=A:=⟨_,rfl⟩;have HA:=Lib.hid hA;have HB:=Lib.hid hB;rw [hA,hB] at h;rw [hA] at r1;rw [hB] at r2;clear hA hB r1 r2;unfold Two;have HF:=Lib.hid (pair h);clear h;have hb0:=Below.refl w.heap.size w;by_cases hc:A < B
 all_goals
  first
   | (have hd: (decide (A < B))=true:=by simp [hc])
   | (have hd: (decide (A < B))=false:=by simp [Decidable.not_not.1 hc])
   | (have hd: (decide (A < B))=false:=by simp [hc])
  rw [hd] at HF;clear hc;go_enter Tryz.func28,Tryz.ntmps28;go_wp2_with (first | (go_at_call 50;refine (rint_as _ _ (by assumption) _ _ (by assumption)).mono ?_;rintro e w' ⟨rfl,hb1⟩) | (go_at_call 50;refine (rint_w _ _ _ (by assumption)).mono ?_;rintro e w' ⟨rfl,hb1⟩) | go_in);go_ret2;exact ⟨HF.out,by assumption⟩
set_option maxHeartbeats 1000000 in
theorem rtwo_14_any (a b:Int) (w:World):Two 28 14 a b w:=by
 have h:=two_14 a b;have r1:=wrap32_range a;have r2:=wrap32_range b;obtain ⟨A,hA⟩:∃A,wrap32 a=A:=⟨_,rfl⟩;obtain ⟨B,hB⟩:∃A,wrap32 b=A:=⟨_,rfl⟩;have HA:=Lib.hid hA;have HB:=Lib.hid hB;rw [hA,hB] at h;rw [hA] at r1;rw [hB] at r2;clear hA hB r1 r2;unfold Two;have HF:=Lib.hid (pair h);clear h;have hb0:=Below.refl w.heap.size w;by_cases hc:A≤B
 all_goals
  first
   | (have hd: (decide (A≤B))=true:=by simp [hc])
   | (have hd: (decide (A≤B))=false:=by simp [Decidable.not_not.1 hc])
   | (have hd: (decide (A≤B))=false:=by simp [hc])
  rw [hd] at HF;clear hc;go_enter Tryz.func28,Tryz.ntmps28;go_wp2_with (first | (go_at_call 50;refine (rint_as _ _ (by assumption) _ _ (by assumption)).mono ?_;rintro e w' ⟨rfl,hb1⟩) | (go_at_call 50;refine (rint_w _ _ _ (by assumption)).mono ?_;rintro e w' ⟨rfl,hb1⟩) | go_in);go_ret2;exact ⟨HF.out,by assumption⟩
set_option maxHeartbeats 1000000 in
theorem rtwo_15_any (a b:Int) (w:World):Two 28 15 a b w:=by
 have h:=two_15 a b;have r1:=wrap32_range a;have r2:=wrap32_range b;obtain ⟨A,hA⟩:∃A,wrap32 a=A:=⟨_,rfl⟩;obtain ⟨B,hB⟩:∃A,wrap32 b=A:=⟨_,rfl⟩;have HA:=Lib.hid hA;have HB:=Lib.hid hB;rw [hA,hB] at h;rw [hA] at r1;rw [hB] at r2;clear hA hB r1 r2;unfold Two;have HF:=Lib.hid (pair h);clear h;have hb0:=Below.refl w.heap.size w;by_cases hc:B < A
 all_goals
  first
   | (have hd: (decide (B < A))=true:=by simp [hc])
   | (have hd: (decide (B < A))=false:=by simp [Decidable.not_not.1 hc])
   | (have hd: (decide (B < A))=false:=by simp [hc])
  rw [hd] at HF;clear hc;go_enter Tryz.func28,Tryz.ntmps28;go_wp2_with (first | (go_at_call 50;refine (rint_as _ _ (by assumption) _ _ (by assumption)).mono ?_;rintro e w' ⟨rfl,hb1⟩) | (go_at_call 50;refine (rint_w _ _ _ (by assumption)).mono ?_;rintro e w' ⟨rfl,hb1⟩) | go_in);go_ret2;exact ⟨HF.out,by assumption⟩
set_option maxHeartbeats 1000000 in
theorem rtwo_16_any (a b:Int) (w:World):Two 28 16 a b w:=by
 have h:=two_16 a b;have r1:=wrap32_range a;have r2:=wrap32_range b;obtain ⟨A,hA⟩:∃A,wrap32 a=A:=⟨_,rfl⟩;obtain ⟨B,hB⟩:∃A,wrap32 b=A:=⟨_,rfl⟩;have HA:=Lib.hid hA;have HB:=Lib.hid hB;rw [hA,hB] at h;rw [hA] at r1;rw [hB] at r2;clear hA hB r1 r2;unfold Two;have HF:=Lib.hid (pair h);clear h;have hb0:=Below.refl w.heap.size w;by_cases hc:B≤A
 all_goals
  first
   | (have hd: (decide (B≤A))=true:=by simp [hc])
   | (have hd: (decide (B≤A))=false:=by simp [Decidable.not_not.1 hc])
   | (have hd: (decide (B≤A))=false:=by simp [hc])
  rw [hd] at HF;clear hc;go_enter Tryz.func28,Tryz.ntmps28;go_wp2_with (first | (go_at_call 50;refine (rint_as _ _ (by assumption) _ _ (by assumption)).mono ?_;rintro e w' ⟨rfl,hb1⟩) | (go_at_call 50;refine (rint_w _ _ _ (by assumption)).mono ?_;rintro e w' ⟨rfl,hb1⟩) | go_in);go_ret2;exact ⟨HF.out,by assumption⟩
set_option maxHeartbeats 1000000 in
theorem rtwo_17_any (a b:Int) (w:World):Two 28 17 a b w:=by
 have h:=two_17 a b;have r1:=wrap32_range a;have r2:=wrap32_range b;obtain ⟨A,hA⟩:∃A,wrap32 a=A:=⟨_,rfl⟩;obtain ⟨B,hB⟩:∃A,wrap32 b=A:=⟨_,rfl⟩;have HA:=Lib.hid hA;have HB:=Lib.hid hB;rw [hA,hB] at h;rw [hA] at r1;rw [hB] at r2;clear hA hB r1 r2;unfold Two;have HF:=Lib.hid (pair h);clear h;have hb0:=Below.refl w.heap.size w;by_cases hc:A=B
 all_goals
  first
   | (have hd: (A == B)=true:=by simp [hc])
   | (have hd: (A == B)=false:=by simp [Decidable.not_not.1 hc])
   | (have hd: (A == B)=false:=by simp [hc])
  rw [hd] at HF;clear hc;go_enter Tryz.func28,Tryz.ntmps28;go_wp2_with (first | (go_at_call 50;refine (rint_as _ _ (by assumption) _ _ (by assumption)).mono ?_;rintro e w' ⟨rfl,hb1⟩) | (go_at_call 50;refine (rint_w _ _ _ (by assumption)).mono ?_;rintro e w' ⟨rfl,hb1⟩) | go_in);go_ret2;exact ⟨HF.out,by assumption⟩
set_option maxHeartbeats 1000000 in
theorem rtwo_18_any (a b:Int) (w:World):Two 28 18 a b w:=by
 have h:=two_18 a b;have r1:=wrap32_range a;have r2:=wrap32_range b;obtain ⟨A,hA⟩:∃A,wrap32 a=A:=⟨_,rfl⟩;obtain ⟨B,hB⟩:∃A,wrap32 b=A:=⟨_,rfl⟩;have HA:=Lib.hid hA;have HB:=Lib.hid hB;rw [hA,hB] at h;rw [hA] at r1;rw [hB] at r2;clear hA hB r1 r2;unfold Two;have HF:=Lib.hid (pair h);clear h;have hb0:=Below.refl w.heap.size w;by_cases hc:¬A=B
 all_goals
  first
   | (have hd: (A != B)=true:=by simp [hc])
   | (have hd: (A != B)=false:=by simp [Decidable.not_not.1 hc])
   | (have hd: (A != B)=false:=by simp [hc])
  rw [hd] at HF;clear hc;go_enter Tryz.func28,Tryz.ntmps28;go_wp2_with (first | (go_at_call 50;refine (rint_as _ _ (by assumption) _ _ (by assumption)).mono ?_;rintro e w' ⟨rfl,hb1⟩) | (go_at_call 50;refine (rint_w _ _ _ (by assumption)).mono ?_;rintro e w' ⟨rfl,hb1⟩) | go_in);go_ret2;exact ⟨HF.out,by assumption⟩
set_option maxHeartbeats 1000000 in
theorem rtwo_else_any (op a b:Int) (w:World) (ho:op < 6∨21 < op):Two 28 op a b w:=by
 have h:=two_else op a b ho;unfold Two;have HF:=Lib.hid (pair h);obtain ⟨A,hA⟩:∃A,wrap32 a=A:=⟨_,rfl⟩;obtain ⟨B,hB⟩:∃A,wrap32 b=A:=⟨_,rfl⟩;have HA:=Lib.hid hA;have HB:=Lib.hid hB;have hb0:=Below.refl w.heap.size w;clear h hA hB;rcases ho with ho | ho
 all_goals
  go_enter Tryz.func28,Tryz.ntmps28;go_wp2_with (first | (go_at_call 50;refine (rint_as _ _ (by assumption) _ _ (by assumption)).mono ?_;rintro e w' ⟨rfl,hb1⟩) | (go_at_call 50;refine (rint_w _ _ _ (by assumption)).mono ?_;rintro e w' ⟨rfl,hb1⟩) | go_in);go_ret2;exact ⟨HF.out,by assumption⟩
theorem rtwo_any (op a b:Int) (w:World):Two 28 op a b w:=by
 by_cases h:op < 6∨21 < op
 · exact rtwo_else_any op a b w h
 · have h2:op=6∨op=7∨op=8∨op=9∨op=10∨op=11∨op=12∨op=13∨op=14∨op=15∨op=16∨op=17∨op=18∨op=19∨op=20∨op=21:=by omega
   rcases h2 with rfl | rfl | rfl | rfl | rfl | rfl | rfl | rfl | rfl | rfl | rfl | rfl | rfl | rfl | rfl | rfl
   · exact rtwo_6_any a b w
   · by_cases h0:wrap32 b=0
     · exact rtwo_7z_any a b w h0
     · exact rtwo_7_any a b w h0
   · by_cases h0:wrap32 b=0
     · exact rtwo_8z_any a b w h0
     · exact rtwo_8_any a b w h0
   · exact rtwo_9_any a b w
   · exact rtwo_10_any a b w
   · exact rtwo_11_any a b w
   · exact rtwo_12_any a b w
   · exact rtwo_13_any a b w
   · exact rtwo_14_any a b w
   · exact rtwo_15_any a b w
   · exact rtwo_16_any a b w
   · exact rtwo_17_any a b w
   · exact rtwo_18_any a b w
   · exact rtwo_19_any a b w
   · exact rtwo_20_any a b w
   · exact rtwo_21_any a b w
set_option maxHeartbeats 1000000 in
theorem rone_3_any (a:Int) (w:World):One 23 3 a w:=by
 have h:=one_3 a;have r1:=wrap32_range a;obtain ⟨A,hA⟩:∃A,wrap32 a=A:=⟨_,rfl⟩;have HA:=Lib.hid hA;rw [hA] at h;rw [hA] at r1;clear hA;unfold One;have HF:=Lib.hid (pair1 h);have hb0:=Below.refl w.heap.size w;clear h;go_enter Tryz.func23,Tryz.ntmps23;go_wp2_with (first | (go_at_call 50;refine (rint_as _ _ (by assumption) _ _ (by assumption)).mono ?_;rintro e w' ⟨rfl,hb1⟩) | (go_at_call 50;refine (rint_w _ _ _ (by assumption)).mono ?_;rintro e w' ⟨rfl,hb1⟩) | go_in);go_ret2;exact ⟨HF.out,by assumption⟩
set_option maxHeartbeats 1000000 in
theorem rone_5_any (a:Int) (w:World):One 23 5 a w:=by
 have h:=one_5 a;have r1:=wrap32_range a;obtain ⟨A,hA⟩:∃A,wrap32 a=A:=⟨_,rfl⟩;have HA:=Lib.hid hA;rw [hA] at h;rw [hA] at r1;clear hA;unfold One;have HF:=Lib.hid (pair1 h);have hb0:=Below.refl w.heap.size w;clear h;have hn:=Lib.hid ((congrArg wrap32 (flip_is A r1)).trans (wrap32_in (-A - 1) (by omega)));go_enter Tryz.func23,Tryz.ntmps23;go_wp2_with (first | (go_at_call 50;refine (rint_as _ _ (by assumption) _ _ (by assumption)).mono ?_;rintro e w' ⟨rfl,hb1⟩) | (go_at_call 50;refine (rint_w _ _ _ (by assumption)).mono ?_;rintro e w' ⟨rfl,hb1⟩) | go_in);go_ret2;exact ⟨HF.out,by assumption⟩
set_option maxHeartbeats 1000000 in
theorem rone_4_any (a:Int) (w:World):One 23 4 a w:=by
 have h:=one_4 a;have r1:=wrap32_range a;obtain ⟨A,hA⟩:∃A,wrap32 a=A:=⟨_,rfl⟩;have HA:=Lib.hid hA;rw [hA] at h;rw [hA] at r1;clear hA;unfold One;have HF:=Lib.hid (pair1 h);have hb0:=Below.refl w.heap.size w;clear h;by_cases hc:A=0
 all_goals
  first
   | (have hd: (A == 0)=true:=by simp [hc])
   | (have hd: (A == 0)=false:=by simp [hc])
  rw [hd] at HF;clear hc;have h1:=Lib.hid (wrap32_in 1 (by decide));have h2:=Lib.hid (wrap32_in 0 (by decide));go_enter Tryz.func23,Tryz.ntmps23;go_wp2_with (first | (go_at_call 50;refine (rint_as _ _ (by assumption) _ _ (by assumption)).mono ?_;rintro e w' ⟨rfl,hb1⟩) | (go_at_call 50;refine (rint_w _ _ _ (by assumption)).mono ?_;rintro e w' ⟨rfl,hb1⟩) | go_in);go_ret2;exact ⟨HF.out,by assumption⟩
set_option maxHeartbeats 1000000 in
theorem rone_else_any (op a:Int) (w:World) (ho:op < 3∨5 < op):One 23 op a w:=by
 have h:=one_else op a ho;unfold One;have HF:=Lib.hid (pair1 h);obtain ⟨A,hA⟩:∃A,wrap32 a=A:=⟨_,rfl⟩;have HA:=Lib.hid hA;have hb0:=Below.refl w.heap.size w;clear h hA;rcases ho with ho | ho
 all_goals
  go_enter Tryz.func23,Tryz.ntmps23;go_wp2_with (first | (go_at_call 50;refine (rint_as _ _ (by assumption) _ _ (by assumption)).mono ?_;rintro e w' ⟨rfl,hb1⟩) | (go_at_call 50;refine (rint_w _ _ _ (by assumption)).mono ?_;rintro e w' ⟨rfl,hb1⟩) | go_in);go_ret2;exact ⟨HF.out,by assumption⟩
theorem rone_any (op a:Int) (w:World):One 23 op a w:=by
 by_cases h:op < 3∨5 < op
 · exact rone_else_any op a w h
 · have h2:op=3∨op=4∨op=5:=by omega
   rcases h2 with rfl | rfl | rfl
   · exact rone_3_any a w
   · exact rone_4_any a w
   · exact rone_5_any a w
end Go.Proofs.YtbhgdlfndamklaaGreatDoor.val
