/- The program's Fit, of every number and type. -/
import Derived.Test.YthfldokfnjpkmaaGreatDoorRows
import Derived.Test.YthfldokfnjpkmaaGreatDoorM13
import Derived.WalkKit
import Derived.ProofKit
import Derived.OpenShut
import Derived.Outline
import Derived.Below
import Derived.Lib.Hide
import Derived.BigQuiet
set_option linter.unusedVariables false
set_option linter.unusedSimpArgs false
namespace Go.Proofs.YthfldokfnjpkmaaGreatDoor.val
open Go.ChangeShapes Go.WideShapes Go.ChangeAt Go.RowKit
theorem ret_int {k:IntKind} {a b:Int} (h:a=b):Ending.returned (.int k a)= .returned (.int k b):=by rw [h]
theorem w64 (n:Int) (h: -9223372036854775808≤n∧n≤9223372036854775807):wrap64 n=n:=by unfold wrap64;omega
set_option maxHeartbeats 400000 in
theorem fit_x (b v:Int) (s:Bool) (w:World):
 Calls Tryz.prog 128 #[.agg #[.int .i64 b,.bool s],.int .i64 v] w fun e w'=>e= .returned (.int .i64 (fitI b s v))∧w'=w.alloc (.cells #[.int .i64 b,.bool s] 138):=by
 by_cases h:b < 1∨32 < b
 · have hf:fitI b s v=0:=by unfold fitI;rw [if_pos h]
   have HF:=Lib.hid hf;clear hf;rcases h with h | h
   · go_enter Tryz.func128,Tryz.ntmps128;go_wp2;go_ret;exact ⟨ret_int HF.out.symm,rfl⟩
   · have h':¬b < 1:=by omega
     go_enter Tryz.func128,Tryz.ntmps128;go_wp2;go_ret;exact ⟨ret_int HF.out.symm,rfl⟩
 · have h1:1≤b:=by omega
   have h2:b≤32:=by omega
   obtain ⟨H,p1,p2,p3,p4⟩:=pows b h1 h2;have hf:fitI b s v=if s=true∧H≤v % (2*H) then v % (2*H) - 2*H else v % (2*H):=by unfold fitI;rw [if_neg h,p1,p2]
   have hl:bits .and .i64 v (2*H - 1)=v % (2*H):=by rw [←p2];exact bits_low b.toNat (by omega) v
   have q1:=Int.emod_nonneg v (show (2*H:Int)≠0 by omega);have q2:=Int.emod_lt_of_pos v (show (0:Int) < 2*H by omega);generalize v % (2*H)=L at*;have hm:wrap64 (2 ^ b.toNat)=2*H:=by rw [p2];exact w64 _ (by omega)
   have HF:=Lib.hid hf;clear hf p2 h;cases s
   · go_enter Tryz.func128,Tryz.ntmps128;go_wp2;go_ret;exact ⟨ret_int (by rw [HF.out];simp),rfl⟩
   · by_cases hh:H≤L
     · have hq: (L / H != 0)=true:=by
        rw [bne_iff_ne];have :1≤L / H:=(Int.le_ediv_iff_mul_le (by omega)).2 (by omega);omega
       go_enter Tryz.func128,Tryz.ntmps128;go_wp2;go_ret;exact ⟨ret_int (by rw [HF.out];simp [hh]),rfl⟩
     · have hq: (L / H != 0)=false:=by
        have :L / H=0:=Int.ediv_eq_zero_of_lt (by omega) (by omega);simp [this]
       go_enter Tryz.func128,Tryz.ntmps128;go_wp2;go_ret;exact ⟨ret_int (by rw [HF.out];rw [if_neg (by omega)]),rfl⟩
theorem fit_any (b v:Int) (s:Bool) (w:World):
 Calls Tryz.prog 128 #[.agg #[.int .i64 b,.bool s],.int .i64 v] w fun e w'=>e= .returned (.int .i64 (fitI b s v))∧Below w.heap.size w w':=
 (fit_x b v s w).mono fun _ _ ⟨he,hw⟩=>⟨he,by rw [hw];exact (Below.refl _ _).alloc (Nat.le_refl _) _⟩
end Go.Proofs.YthfldokfnjpkmaaGreatDoor.val
namespace Go.Proofs.YthfldokfnjpkmaaGreatDoor.val
open Go.ChangeShapes Go.WideShapes Go.ChangeAt Go.RowKit
theorem asInt_any (a:Int) (w:World):
 Calls Tryz.prog 112 #[.int .i64 a] w fun e w'=>e= .returned (.int .i64 (wrap32 a))∧w=w':=by
 have h:=w64 (wrap32 a) (by have:=wrap32_range a;omega);have HF:=Lib.hid h;clear h;go_enter Tryz.func112,Tryz.ntmps112;go_wp2;go_ret;exact ⟨ret_int HF.out,rfl⟩
theorem shl_range (a p:Int) (ha: -2147483648≤a) (ha':a≤2147483647) (hp:0≤p) (hp':p < 32):
 -4611686018427387904≤a*2 ^ p.toNat∧a*2 ^ p.toNat≤4611686018427387904:=by
 obtain ⟨H,h1,_,h3,h4⟩:=pows (p+1) (by omega) (by omega);rw [show (p+1).toNat - 1=p.toNat from by omega] at h1;rw [h1];have hn:0≤H:=by omega
 constructor
 · have:=Int.mul_le_mul_of_nonneg_right ha hn;omega
 · have:=Int.mul_le_mul_of_nonneg_right ha' hn;omega
set_option maxHeartbeats 400000 in
theorem shifted_any (a p:Int) (w:World) (ha: -2147483648≤a) (ha':a≤2147483647) (hp: -2147483648≤p) (hp':p≤2147483648):
 Calls Tryz.prog 118 #[.int .i64 a,.int .i64 p] w fun e w'=>e= .returned (.int .i64 (shI a p))∧w=w':=by
 by_cases h1:32≤p
 · have HF:=Lib.hid (show shI a p=0 by unfold shI;rw [if_pos h1]);go_enter Tryz.func118,Tryz.ntmps118;go_wp2;go_ret;exact ⟨ret_int HF.out.symm,rfl⟩
 · by_cases h2:0≤p
   · have HF:=Lib.hid (show shI a p=a*2 ^ p.toNat by unfold shI;rw [if_neg h1,if_pos h2]);have hs:=shl_range a p ha ha' h2 (by omega);have hw:=w64 (a*2 ^ p.toNat) (by omega);go_enter Tryz.func118,Tryz.ntmps118;go_wp2;go_ret;exact ⟨ret_int HF.out.symm,rfl⟩
   · have HF:=Lib.hid (show shI a p=a / 2 ^ (-p).toNat by unfold shI;rw [if_neg h1,if_neg h2]);have hs:Op.shift .shr .i64 a .i64 (-p)=pure (.int .i64 (a / 2 ^ (-p).toNat)):=shr_any _ _ _ ha ha' (by omega);go_enter Tryz.func118,Tryz.ntmps118;go_wp2;go_ret;exact ⟨ret_int HF.out.symm,rfl⟩
theorem pair {op a b x y:Int} (h:two op a b= (x,y)):Ending.returned (.tuple #[.int .i64 x,.int .i64 y])= .returned (.tuple #[.int .i64 (two op a b).1,.int .i64 (two op a b).2]):=by
 rw [h]
def Two (k:Nat) (op a b:Int) (w:World):Prop:=Calls Tryz.prog k #[.int .i64 op,.int .i64 a,.int .i64 b] w fun e w'=>e= .returned (.tuple #[.int .i64 (two op a b).1,.int .i64 (two op a b).2])∧Below w.heap.size w w'
theorem asInt_as (a A:Int) (h:Hid (wrap32 a=A)) (w:World):
 Calls Tryz.prog 112 #[.int .i64 a] w fun e w'=>e= .returned (.int .i64 A)∧w=w':=by
 rw [←h.out];exact asInt_any a w
set_option maxHeartbeats 1000000 in
theorem two_6_any (a b:Int) (w:World):Two 70 6 a b w:=by
 have h:=two_6 a b;have r1:=wrap32_range a;have r2:=wrap32_range b;obtain ⟨A,hA⟩:∃A,wrap32 a=A:=⟨_,rfl⟩;obtain ⟨B,hB⟩:∃A,wrap32 b=A:=⟨_,rfl⟩;have HA:=Lib.hid hA;have HB:=Lib.hid hB;rw [hA,hB] at h;rw [hA] at r1;rw [hB] at r2;have r:=mul_range A B r1 r2;clear hA hB;unfold Two;have HF:=Lib.hid (pair h);clear h;go_enter Tryz.func70,Tryz.ntmps70;go_wp2;refine wp_scope_goes 1 ?_;go_wp2_with (first | (go_at_call 112;refine (asInt_as _ _ (by assumption) _).mono ?_;rintro e w' ⟨rfl,rfl⟩));go_step3;simp only [Exit.inBlock,Exit.then];refine goes_goto rfl ?_;go_wp2_with (go_at_call 112;refine (asInt_any _ _).mono ?_;rintro e w' ⟨rfl,rfl⟩);refine goes_ret ?_;go_ret2;exact ⟨HF.out,Below.refl _ _⟩
set_option maxHeartbeats 1000000 in
theorem two_7_any (a b:Int) (w:World) (h0:¬wrap32 b=0):Two 70 7 a b w:=by
 have h:=two_7 a b h0;have r1:=wrap32_range a;have r2:=wrap32_range b;obtain ⟨A,hA⟩:∃A,wrap32 a=A:=⟨_,rfl⟩;obtain ⟨B,hB⟩:∃A,wrap32 b=A:=⟨_,rfl⟩;have HA:=Lib.hid hA;have HB:=Lib.hid hB;rw [hA,hB] at h;rw [hA] at r1;rw [hB] at r2;have hB0:¬B=0:=by rw [←hB];exact h0
 have hbq: (B == 0)=false:=by rw [beq_eq_false_iff_ne];exact hB0
 have q:=tdiv_range A B r1;have hq:=w64 (A.tdiv B) (by omega);have q2:=tmod_range A B r2 hB0;have hq2:=w64 (A.tmod B) (by omega);clear h0;clear hA hB;unfold Two;have HF:=Lib.hid (pair h);clear h;go_enter Tryz.func70,Tryz.ntmps70;go_wp2;refine wp_scope_goes 1 ?_;go_wp2_with (first | (go_at_call 112;refine (asInt_as _ _ (by assumption) _).mono ?_;rintro e w' ⟨rfl,rfl⟩));go_step3;simp only [Exit.inBlock,Exit.then];refine goes_goto rfl ?_;go_wp2_with (go_at_call 112;refine (asInt_any _ _).mono ?_;rintro e w' ⟨rfl,rfl⟩);refine goes_ret ?_;go_ret2;exact ⟨HF.out,Below.refl _ _⟩
set_option maxHeartbeats 1000000 in
theorem two_8_any (a b:Int) (w:World) (h0:¬wrap32 b=0):Two 70 8 a b w:=by
 have h:=two_8 a b h0;have r1:=wrap32_range a;have r2:=wrap32_range b;obtain ⟨A,hA⟩:∃A,wrap32 a=A:=⟨_,rfl⟩;obtain ⟨B,hB⟩:∃A,wrap32 b=A:=⟨_,rfl⟩;have HA:=Lib.hid hA;have HB:=Lib.hid hB;rw [hA,hB] at h;rw [hA] at r1;rw [hB] at r2;have hB0:¬B=0:=by rw [←hB];exact h0
 have hbq: (B == 0)=false:=by rw [beq_eq_false_iff_ne];exact hB0
 have q:=tdiv_range A B r1;have hq:=w64 (A.tdiv B) (by omega);have q2:=tmod_range A B r2 hB0;have hq2:=w64 (A.tmod B) (by omega);clear h0;have hm:=Lib.hid (wrap32_in _ q2);clear hA hB;unfold Two;have HF:=Lib.hid (pair h);clear h;go_enter Tryz.func70,Tryz.ntmps70;go_wp2;refine wp_scope_goes 1 ?_;go_wp2_with (first | (go_at_call 112;refine (asInt_as _ _ (by assumption) _).mono ?_;rintro e w' ⟨rfl,rfl⟩));go_step3;simp only [Exit.inBlock,Exit.then];refine goes_goto rfl ?_;go_wp2_with (go_at_call 112;refine (asInt_as _ _ (by assumption) _).mono ?_;rintro e w' ⟨rfl,rfl⟩);refine goes_ret ?_;go_ret2;exact ⟨HF.out,Below.refl _ _⟩
set_option maxHeartbeats 1000000 in
theorem two_9_any (a b:Int) (w:World):Two 70 9 a b w:=by
 have h:=two_9 a b;have r1:=wrap32_range a;have r2:=wrap32_range b;obtain ⟨A,hA⟩:∃A,wrap32 a=A:=⟨_,rfl⟩;obtain ⟨B,hB⟩:∃A,wrap32 b=A:=⟨_,rfl⟩;have HA:=Lib.hid hA;have HB:=Lib.hid hB;rw [hA,hB] at h;rw [hA] at r1;rw [hB] at r2;clear hA hB;unfold Two;have HF:=Lib.hid (pair h);clear h;go_enter Tryz.func70,Tryz.ntmps70;go_wp2;refine wp_scope_goes 1 ?_;go_wp2_with (first | (go_at_call 112;refine (asInt_as _ _ (by assumption) _).mono ?_;rintro e w' ⟨rfl,rfl⟩));go_step3;simp only [Exit.inBlock,Exit.then];refine goes_goto rfl ?_;go_wp2_with (go_at_call 112;refine (asInt_any _ _).mono ?_;rintro e w' ⟨rfl,rfl⟩);refine goes_ret ?_;go_ret2;exact ⟨HF.out,Below.refl _ _⟩
set_option maxHeartbeats 1000000 in
theorem two_10_any (a b:Int) (w:World):Two 70 10 a b w:=by
 have h:=two_10 a b;have r1:=wrap32_range a;have r2:=wrap32_range b;obtain ⟨A,hA⟩:∃A,wrap32 a=A:=⟨_,rfl⟩;obtain ⟨B,hB⟩:∃A,wrap32 b=A:=⟨_,rfl⟩;have HA:=Lib.hid hA;have HB:=Lib.hid hB;rw [hA,hB] at h;rw [hA] at r1;rw [hB] at r2;clear hA hB;unfold Two;have HF:=Lib.hid (pair h);clear h;go_enter Tryz.func70,Tryz.ntmps70;go_wp2;refine wp_scope_goes 1 ?_;go_wp2_with (first | (go_at_call 112;refine (asInt_as _ _ (by assumption) _).mono ?_;rintro e w' ⟨rfl,rfl⟩));go_step3;simp only [Exit.inBlock,Exit.then];refine goes_goto rfl ?_;go_wp2_with (go_at_call 112;refine (asInt_any _ _).mono ?_;rintro e w' ⟨rfl,rfl⟩);refine goes_ret ?_;go_ret2;exact ⟨HF.out,Below.refl _ _⟩
set_option maxHeartbeats 1000000 in
theorem two_11_any (a b:Int) (w:World):Two 70 11 a b w:=by
 have h:=two_11 a b;have r1:=wrap32_range a;have r2:=wrap32_range b;obtain ⟨A,hA⟩:∃A,wrap32 a=A:=⟨_,rfl⟩;obtain ⟨B,hB⟩:∃A,wrap32 b=A:=⟨_,rfl⟩;have HA:=Lib.hid hA;have HB:=Lib.hid hB;rw [hA,hB] at h;rw [hA] at r1;rw [hB] at r2;clear hA hB;unfold Two;have HF:=Lib.hid (pair h);clear h;go_enter Tryz.func70,Tryz.ntmps70;go_wp2;refine wp_scope_goes 1 ?_;go_wp2_with (first | (go_at_call 112;refine (asInt_as _ _ (by assumption) _).mono ?_;rintro e w' ⟨rfl,rfl⟩) | (go_at_call 118;refine (shifted_any _ _ _ (by omega) (by omega) (by omega) (by omega)).mono ?_;rintro e w' ⟨rfl,rfl⟩));go_step3;simp only [Exit.inBlock,Exit.then];refine goes_goto rfl ?_;go_wp2_with (go_at_call 112;refine (asInt_any _ _).mono ?_;rintro e w' ⟨rfl,rfl⟩);refine goes_ret ?_;go_ret2;exact ⟨HF.out,Below.refl _ _⟩
set_option maxHeartbeats 1000000 in
theorem two_12_any (a b:Int) (w:World):Two 70 12 a b w:=by
 have h:=two_12 a b;have r1:=wrap32_range a;have r2:=wrap32_range b;obtain ⟨A,hA⟩:∃A,wrap32 a=A:=⟨_,rfl⟩;obtain ⟨B,hB⟩:∃A,wrap32 b=A:=⟨_,rfl⟩;have HA:=Lib.hid hA;have HB:=Lib.hid hB;rw [hA,hB] at h;rw [hA] at r1;rw [hB] at r2;clear hA hB;unfold Two;have HF:=Lib.hid (pair h);clear h;go_enter Tryz.func70,Tryz.ntmps70;go_wp2;refine wp_scope_goes 1 ?_;go_wp2_with (first | (go_at_call 112;refine (asInt_as _ _ (by assumption) _).mono ?_;rintro e w' ⟨rfl,rfl⟩) | (go_at_call 118;refine (shifted_any _ _ _ (by omega) (by omega) (by omega) (by omega)).mono ?_;rintro e w' ⟨rfl,rfl⟩));go_step3;simp only [Exit.inBlock,Exit.then];refine goes_goto rfl ?_;go_wp2_with (go_at_call 112;refine (asInt_any _ _).mono ?_;rintro e w' ⟨rfl,rfl⟩);refine goes_ret ?_;go_ret2;exact ⟨HF.out,Below.refl _ _⟩
set_option maxHeartbeats 1000000 in
theorem two_19_any (a b:Int) (w:World):Two 70 19 a b w:=by
 have h:=two_19 a b;have r1:=wrap32_range a;have r2:=wrap32_range b;obtain ⟨A,hA⟩:∃A,wrap32 a=A:=⟨_,rfl⟩;obtain ⟨B,hB⟩:∃A,wrap32 b=A:=⟨_,rfl⟩;have HA:=Lib.hid hA;have HB:=Lib.hid hB;rw [hA,hB] at h;rw [hA] at r1;rw [hB] at r2;have hm:=Lib.hid (wrap32_in _ (and_range A B r1 r2));clear hA hB;unfold Two;have HF:=Lib.hid (pair h);clear h;go_enter Tryz.func70,Tryz.ntmps70;go_wp2;refine wp_scope_goes 1 ?_;go_wp2_with (first | (go_at_call 112;refine (asInt_as _ _ (by assumption) _).mono ?_;rintro e w' ⟨rfl,rfl⟩));go_step3;simp only [Exit.inBlock,Exit.then];refine goes_goto rfl ?_;go_wp2_with (go_at_call 112;refine (asInt_as _ _ (by assumption) _).mono ?_;rintro e w' ⟨rfl,rfl⟩);refine goes_ret ?_;go_ret2;exact ⟨HF.out,Below.refl _ _⟩
set_option maxHeartbeats 1000000 in
theorem two_20_any (a b:Int) (w:World):Two 70 20 a b w:=by
 have h:=two_20 a b;have r1:=wrap32_range a;have r2:=wrap32_range b;obtain ⟨A,hA⟩:∃A,wrap32 a=A:=⟨_,rfl⟩;obtain ⟨B,hB⟩:∃A,wrap32 b=A:=⟨_,rfl⟩;have HA:=Lib.hid hA;have HB:=Lib.hid hB;rw [hA,hB] at h;rw [hA] at r1;rw [hB] at r2;have hm:=Lib.hid (wrap32_in _ (xor_range A B r1 r2));clear hA hB;unfold Two;have HF:=Lib.hid (pair h);clear h;go_enter Tryz.func70,Tryz.ntmps70;go_wp2;refine wp_scope_goes 1 ?_;go_wp2_with (first | (go_at_call 112;refine (asInt_as _ _ (by assumption) _).mono ?_;rintro e w' ⟨rfl,rfl⟩));go_step3;simp only [Exit.inBlock,Exit.then];refine goes_goto rfl ?_;go_wp2_with (go_at_call 112;refine (asInt_as _ _ (by assumption) _).mono ?_;rintro e w' ⟨rfl,rfl⟩);refine goes_ret ?_;go_ret2;exact ⟨HF.out,Below.refl _ _⟩
set_option maxHeartbeats 1000000 in
theorem two_21_any (a b:Int) (w:World):Two 70 21 a b w:=by
 have h:=two_21 a b;have r1:=wrap32_range a;have r2:=wrap32_range b;obtain ⟨A,hA⟩:∃A,wrap32 a=A:=⟨_,rfl⟩;obtain ⟨B,hB⟩:∃A,wrap32 b=A:=⟨_,rfl⟩;have HA:=Lib.hid hA;have HB:=Lib.hid hB;rw [hA,hB] at h;rw [hA] at r1;rw [hB] at r2;have hm:=Lib.hid (wrap32_in _ (or_range A B r1 r2));clear hA hB;unfold Two;have HF:=Lib.hid (pair h);clear h;go_enter Tryz.func70,Tryz.ntmps70;go_wp2;refine wp_scope_goes 1 ?_;go_wp2_with (first | (go_at_call 112;refine (asInt_as _ _ (by assumption) _).mono ?_;rintro e w' ⟨rfl,rfl⟩));go_step3;simp only [Exit.inBlock,Exit.then];refine goes_goto rfl ?_;go_wp2_with (go_at_call 112;refine (asInt_as _ _ (by assumption) _).mono ?_;rintro e w' ⟨rfl,rfl⟩);refine goes_ret ?_;go_ret2;exact ⟨HF.out,Below.refl _ _⟩
set_option maxHeartbeats 1000000 in
theorem two_7z_any (a b:Int) (w:World) (h0:wrap32 b=0):Two 70 7 a b w:=by
 have h:=two_7z a b h0;obtain ⟨A,hA⟩:∃A,wrap32 a=A:=⟨_,rfl⟩;have HA:=Lib.hid hA;have HB:=Lib.hid h0;clear hA h0;unfold Two;have HF:=Lib.hid (pair h);clear h;go_enter Tryz.func70,Tryz.ntmps70;go_wp2;refine wp_scope_goes 1 ?_;go_wp2_with (go_at_call 112;refine (asInt_as _ _ (by assumption) _).mono ?_;rintro e w' ⟨rfl,rfl⟩);go_step3;simp only [Exit.inBlock,Exit.then];refine goes_goto rfl ?_;go_wp2;refine goes_ret ?_;go_ret2;exact ⟨HF.out,Below.refl _ _⟩
set_option maxHeartbeats 1000000 in
theorem two_8z_any (a b:Int) (w:World) (h0:wrap32 b=0):Two 70 8 a b w:=by
 have h:=two_8z a b h0;obtain ⟨A,hA⟩:∃A,wrap32 a=A:=⟨_,rfl⟩;have HA:=Lib.hid hA;have HB:=Lib.hid h0;clear hA h0;unfold Two;have HF:=Lib.hid (pair h);clear h;go_enter Tryz.func70,Tryz.ntmps70;go_wp2;refine wp_scope_goes 1 ?_;go_wp2_with (go_at_call 112;refine (asInt_as _ _ (by assumption) _).mono ?_;rintro e w' ⟨rfl,rfl⟩);go_step3;simp only [Exit.inBlock,Exit.then];refine goes_goto rfl ?_;go_wp2;refine goes_ret ?_;go_ret2;exact ⟨HF.out,Below.refl _ _⟩
set_option maxHeartbeats 1000000 in
theorem two_13_any (a b:Int) (w:World):Two 70 13 a b w:=by
 have h:=two_13 a b;have r1:=wrap32_range a;have r2:=wrap32_range b;obtain ⟨A,hA⟩:∃A,wrap32 a=A:=⟨_,rfl⟩;obtain ⟨B,hB⟩:∃A,wrap32 b=A:=⟨_,rfl⟩;have HA:=Lib.hid hA;have HB:=Lib.hid hB;rw [hA,hB] at h;rw [hA] at r1;rw [hB] at r2;clear hA hB r1 r2;unfold Two;have HF:=Lib.hid (pair h);clear h;by_cases hc:A < B
 all_goals
  first
   | (have hd: (decide (A < B))=true:=by simp [hc])
   | (have hd: (decide (A < B))=false:=by simp [Decidable.not_not.1 hc])
   | (have hd: (decide (A < B))=false:=by simp [hc])
  rw [hd] at HF;clear hc;go_enter Tryz.func70,Tryz.ntmps70;go_wp2;refine wp_scope_goes 1 ?_;go_wp2_with (first | (go_at_call 112;refine (asInt_as _ _ (by assumption) _).mono ?_;rintro e w' ⟨rfl,rfl⟩) | go_in);refine goes_ret ?_;go_ret2;exact ⟨HF.out,Below.refl _ _⟩
set_option maxHeartbeats 1000000 in
theorem two_14_any (a b:Int) (w:World):Two 70 14 a b w:=by
 have h:=two_14 a b;have r1:=wrap32_range a;have r2:=wrap32_range b;obtain ⟨A,hA⟩:∃A,wrap32 a=A:=⟨_,rfl⟩;obtain ⟨B,hB⟩:∃A,wrap32 b=A:=⟨_,rfl⟩;have HA:=Lib.hid hA;have HB:=Lib.hid hB;rw [hA,hB] at h;rw [hA] at r1;rw [hB] at r2;clear hA hB r1 r2;unfold Two;have HF:=Lib.hid (pair h);clear h;by_cases hc:A≤B
 all_goals
  first
   | (have hd: (decide (A≤B))=true:=by simp [hc])
   | (have hd: (decide (A≤B))=false:=by simp [Decidable.not_not.1 hc])
   | (have hd: (decide (A≤B))=false:=by simp [hc])
  rw [hd] at HF;clear hc;go_enter Tryz.func70,Tryz.ntmps70;go_wp2;refine wp_scope_goes 1 ?_;go_wp2_with (first | (go_at_call 112;refine (asInt_as _ _ (by assumption) _).mono ?_;rintro e w' ⟨rfl,rfl⟩) | go_in);refine goes_ret ?_;go_ret2;exact ⟨HF.out,Below.refl _ _⟩
set_option maxHeartbeats 1000000 in
theorem two_15_any (a b:Int) (w:World):Two 70 15 a b w:=by
 have h:=two_15 a b;have r1:=wrap32_range a;have r2:=wrap32_range b;obtain ⟨A,hA⟩:∃A,wrap32 a=A:=⟨_,rfl⟩;obtain ⟨B,hB⟩:∃A,wrap32 b=A:=⟨_,rfl⟩;have HA:=Lib.hid hA;have HB:=Lib.hid hB;rw [hA,hB] at h;rw [hA] at r1;rw [hB] at r2;clear hA hB r1 r2;unfold Two;have HF:=Lib.hid (pair h);clear h;by_cases hc:B < A
 all_goals
  first
   | (have hd: (decide (B < A))=true:=by simp [hc])
   | (have hd: (decide (B < A))=false:=by simp [Decidable.not_not.1 hc])
   | (have hd: (decide (B < A))=false:=by simp [hc])
  rw [hd] at HF;clear hc;go_enter Tryz.func70,Tryz.ntmps70;go_wp2;refine wp_scope_goes 1 ?_;go_wp2_with (first | (go_at_call 112;refine (asInt_as _ _ (by assumption) _).mono ?_;rintro e w' ⟨rfl,rfl⟩) | go_in);refine goes_ret ?_;go_ret2;exact ⟨HF.out,Below.refl _ _⟩
set_option maxHeartbeats 1000000 in
theorem two_16_any (a b:Int) (w:World):Two 70 16 a b w:=by
 have h:=two_16 a b;have r1:=wrap32_range a;have r2:=wrap32_range b;obtain ⟨A,hA⟩:∃A,wrap32 a=A:=⟨_,rfl⟩;obtain ⟨B,hB⟩:∃A,wrap32 b=A:=⟨_,rfl⟩;have HA:=Lib.hid hA;have HB:=Lib.hid hB;rw [hA,hB] at h;rw [hA] at r1;rw [hB] at r2;clear hA hB r1 r2;unfold Two;have HF:=Lib.hid (pair h);clear h;by_cases hc:B≤A
 all_goals
  first
   | (have hd: (decide (B≤A))=true:=by simp [hc])
   | (have hd: (decide (B≤A))=false:=by simp [Decidable.not_not.1 hc])
   | (have hd: (decide (B≤A))=false:=by simp [hc])
  rw [hd] at HF;clear hc;go_enter Tryz.func70,Tryz.ntmps70;go_wp2;refine wp_scope_goes 1 ?_;go_wp2_with (first | (go_at_call 112;refine (asInt_as _ _ (by assumption) _).mono ?_;rintro e w' ⟨rfl,rfl⟩) | go_in);refine goes_ret ?_;go_ret2;exact ⟨HF.out,Below.refl _ _⟩
set_option maxHeartbeats 1000000 in
theorem two_17_any (a b:Int) (w:World):Two 70 17 a b w:=by
 have h:=two_17 a b;have r1:=wrap32_range a;have r2:=wrap32_range b;obtain ⟨A,hA⟩:∃A,wrap32 a=A:=⟨_,rfl⟩;obtain ⟨B,hB⟩:∃A,wrap32 b=A:=⟨_,rfl⟩;have HA:=Lib.hid hA;have HB:=Lib.hid hB;rw [hA,hB] at h;rw [hA] at r1;rw [hB] at r2;clear hA hB r1 r2;unfold Two;have HF:=Lib.hid (pair h);clear h;by_cases hc:A=B
 all_goals
  first
   | (have hd: (A == B)=true:=by simp [hc])
   | (have hd: (A == B)=false:=by simp [Decidable.not_not.1 hc])
   | (have hd: (A == B)=false:=by simp [hc])
  rw [hd] at HF;clear hc;go_enter Tryz.func70,Tryz.ntmps70;go_wp2;refine wp_scope_goes 1 ?_;go_wp2_with (first | (go_at_call 112;refine (asInt_as _ _ (by assumption) _).mono ?_;rintro e w' ⟨rfl,rfl⟩) | go_in);refine goes_ret ?_;go_ret2;exact ⟨HF.out,Below.refl _ _⟩
set_option maxHeartbeats 1000000 in
theorem two_18_any (a b:Int) (w:World):Two 70 18 a b w:=by
 have h:=two_18 a b;have r1:=wrap32_range a;have r2:=wrap32_range b;obtain ⟨A,hA⟩:∃A,wrap32 a=A:=⟨_,rfl⟩;obtain ⟨B,hB⟩:∃A,wrap32 b=A:=⟨_,rfl⟩;have HA:=Lib.hid hA;have HB:=Lib.hid hB;rw [hA,hB] at h;rw [hA] at r1;rw [hB] at r2;clear hA hB r1 r2;unfold Two;have HF:=Lib.hid (pair h);clear h;by_cases hc:¬A=B
 all_goals
  first
   | (have hd: (A != B)=true:=by simp [hc])
   | (have hd: (A != B)=false:=by simp [Decidable.not_not.1 hc])
   | (have hd: (A != B)=false:=by simp [hc])
  rw [hd] at HF;clear hc;go_enter Tryz.func70,Tryz.ntmps70;go_wp2;refine wp_scope_goes 1 ?_;go_wp2_with (first | (go_at_call 112;refine (asInt_as _ _ (by assumption) _).mono ?_;rintro e w' ⟨rfl,rfl⟩) | go_in);refine goes_ret ?_;go_ret2;exact ⟨HF.out,Below.refl _ _⟩
set_option maxHeartbeats 1000000 in
theorem two_else_any (op a b:Int) (w:World) (ho:op < 6∨21 < op):Two 70 op a b w:=by
 have h:=two_else op a b ho;unfold Two;have HF:=Lib.hid (pair h);obtain ⟨A,hA⟩:∃A,wrap32 a=A:=⟨_,rfl⟩;obtain ⟨B,hB⟩:∃A,wrap32 b=A:=⟨_,rfl⟩;have HA:=Lib.hid hA;have HB:=Lib.hid hB;clear h hA hB;rcases ho with ho | ho
 all_goals
  go_enter Tryz.func70,Tryz.ntmps70;go_wp2;refine wp_scope_goes 1 ?_;go_wp2_with (first | (go_at_call 112;refine (asInt_as _ _ (by assumption) _).mono ?_;rintro e w' ⟨rfl,rfl⟩) | go_in);refine goes_ret ?_;go_ret2;exact ⟨HF.out,Below.refl _ _⟩
theorem two_any (op a b:Int) (w:World):Two 70 op a b w:=by
 by_cases h:op < 6∨21 < op
 · exact two_else_any op a b w h
 · have h2:op=6∨op=7∨op=8∨op=9∨op=10∨op=11∨op=12∨op=13∨op=14∨op=15∨op=16∨op=17∨op=18∨op=19∨op=20∨op=21:=by omega
   rcases h2 with rfl | rfl | rfl | rfl | rfl | rfl | rfl | rfl | rfl | rfl | rfl | rfl | rfl | rfl | rfl | rfl
   · exact two_6_any a b w
   · by_cases h0:wrap32 b=0
     · exact two_7z_any a b w h0
     · exact two_7_any a b w h0
   · by_cases h0:wrap32 b=0
     · exact two_8z_any a b w h0
     · exact two_8_any a b w h0
   · exact two_9_any a b w
   · exact two_10_any a b w
   · exact two_11_any a b w
   · exact two_12_any a b w
   · exact two_13_any a b w
   · exact two_14_any a b w
   · exact two_15_any a b w
   · exact two_16_any a b w
   · exact two_17_any a b w
   · exact two_18_any a b w
   · exact two_19_any a b w
   · exact two_20_any a b w
   · exact two_21_any a b w
theorem pair1 {op a x y:Int} (h:one op a= (x,y)):Ending.returned (.tuple #[.int .i64 x,.int .i64 y])= .returned (.tuple #[.int .i64 (one op a).1,.int .i64 (one op a).2]):=by
 rw [h]
def One (k:Nat) (op a:Int) (w:World):Prop:=Calls Tryz.prog k #[.int .i64 op,.int .i64 a] w fun e w'=>e= .returned (.tuple #[.int .i64 (one op a).1,.int .i64 (one op a).2])∧Below w.heap.size w w'
set_option maxHeartbeats 1000000 in
theorem one_3_any (a:Int) (w:World):One 64 3 a w:=by
 have h:=one_3 a;have r1:=wrap32_range a;obtain ⟨A,hA⟩:∃A,wrap32 a=A:=⟨_,rfl⟩;have HA:=Lib.hid hA;rw [hA] at h;rw [hA] at r1;clear hA;unfold One;have HF:=Lib.hid (pair1 h);have hb0:=Below.refl w.heap.size w;clear h;go_enter Tryz.func64,Tryz.ntmps64;go_wp2;refine wp_scope_goes 1 ?_;go_wp2_with (first | (go_at_call 112;refine (asInt_as _ _ (by assumption) _).mono ?_;rintro e w' ⟨rfl,rfl⟩) | go_in);go_step3;simp only [Exit.inBlock,Exit.then];refine goes_goto rfl ?_;go_wp2_with (go_at_call 112;refine (asInt_any _ _).mono ?_;rintro e w' ⟨rfl,rfl⟩);refine goes_ret ?_;go_ret2;exact ⟨HF.out,Below.refl _ _⟩
set_option maxHeartbeats 1000000 in
theorem one_5_any (a:Int) (w:World):One 64 5 a w:=by
 have h:=one_5 a;have r1:=wrap32_range a;obtain ⟨A,hA⟩:∃A,wrap32 a=A:=⟨_,rfl⟩;have HA:=Lib.hid hA;rw [hA] at h;rw [hA] at r1;clear hA;unfold One;have HF:=Lib.hid (pair1 h);have hb0:=Below.refl w.heap.size w;clear h;have hn:=Lib.hid ((congrArg wrap32 (flip_is A r1)).trans (wrap32_in (-A - 1) (by omega)));go_enter Tryz.func64,Tryz.ntmps64;go_wp2;refine wp_scope_goes 1 ?_;go_wp2_with (first | (go_at_call 112;refine (asInt_as _ _ (by assumption) _).mono ?_;rintro e w' ⟨rfl,rfl⟩) | go_in);go_step3;simp only [Exit.inBlock,Exit.then];refine goes_goto rfl ?_;go_wp2_with (go_at_call 112;refine (asInt_as _ _ (by assumption) _).mono ?_;rintro e w' ⟨rfl,rfl⟩);refine goes_ret ?_;go_ret2;exact ⟨HF.out,Below.refl _ _⟩
set_option maxHeartbeats 1000000 in
theorem one_4_any (a:Int) (w:World):One 64 4 a w:=by
 have h:=one_4 a;have r1:=wrap32_range a;obtain ⟨A,hA⟩:∃A,wrap32 a=A:=⟨_,rfl⟩;have HA:=Lib.hid hA;rw [hA] at h;rw [hA] at r1;clear hA;unfold One;have HF:=Lib.hid (pair1 h);have hb0:=Below.refl w.heap.size w;clear h;by_cases hc:A=0
 all_goals
  first
   | (have hd: (A == 0)=true:=by simp [hc])
   | (have hd: (A == 0)=false:=by simp [hc])
  rw [hd] at HF;clear hc;have h1:=Lib.hid (wrap32_in 1 (by decide));have h2:=Lib.hid (wrap32_in 0 (by decide));go_enter Tryz.func64,Tryz.ntmps64;go_wp2;refine wp_scope_goes 1 ?_;go_wp2_with (first | (go_at_call 112;refine (asInt_as _ _ (by assumption) _).mono ?_;rintro e w' ⟨rfl,rfl⟩) | go_in);go_step3;simp only [Exit.inBlock,Exit.then];refine goes_goto rfl ?_;go_wp2_with (go_at_call 112;refine (asInt_as _ _ (by assumption) _).mono ?_;rintro e w' ⟨rfl,rfl⟩);refine goes_ret ?_;go_ret2;exact ⟨HF.out,Below.refl _ _⟩
set_option maxHeartbeats 1000000 in
theorem one_else_any (op a:Int) (w:World) (ho:op < 3∨5 < op):One 64 op a w:=by
 have h:=one_else op a ho;unfold One;have HF:=Lib.hid (pair1 h);obtain ⟨A,hA⟩:∃A,wrap32 a=A:=⟨_,rfl⟩;have HA:=Lib.hid hA;clear h hA;rcases ho with ho | ho
 all_goals
  go_enter Tryz.func64,Tryz.ntmps64;go_wp2;refine wp_scope_goes 1 ?_;go_wp2_with (first | (go_at_call 112;refine (asInt_as _ _ (by assumption) _).mono ?_;rintro e w' ⟨rfl,rfl⟩) | go_in);refine goes_ret ?_;go_ret2;exact ⟨HF.out,Below.refl _ _⟩
theorem one_any (op a:Int) (w:World):One 64 op a w:=by
 by_cases h:op < 3∨5 < op
 · exact one_else_any op a w h
 · have h2:op=3∨op=4∨op=5:=by omega
   rcases h2 with rfl | rfl | rfl
   · exact one_3_any a w
   · exact one_4_any a w
   · exact one_5_any a w
end Go.Proofs.YthfldokfnjpkmaaGreatDoor.val
namespace Go.Proofs.YthfldokfnjpkmaaGreatDoor
open Go.ChangeShapes Go.WideShapes Go.ChangeAt Go.RowKit
structure EnvD where
 m:ModelD
 s:StateD
 pid:Int
 timeout:Bool
 able:List Bool
structure Ek (B:Nat) (w:World) (pe:Nat) (h:MH) (hs:SH) (ao:Option Addr) (ac:Nat) (E:EnvD):Prop where
 ck:Ck B w pe h E.m
 sk:Sk B w pe 7 hs E.s
 c13:w.cell? ⟨pe,13,none⟩=some (.int .i64 E.pid)
 c14:w.cell? ⟨pe,14,none⟩=some (.bool E.timeout)
 c15:w.cell? ⟨pe,15,none⟩=some (.slice ao E.able.length ac)
 able:Row B ao 1 (boolAt w) E.able
theorem Ek.leW {B pe:Nat} {w:World} {h:MH} {hs:SH} {ao:Option Addr} {ac:Nat} {E:EnvD} (k:Ek B w pe h hs ao ac E):B≤w.heap.size:=by have:=k.ck.le;have:=k.ck.lt;omega
theorem Ek.below {B pe:Nat} {w w':World} {h:MH} {hs:SH} {ao:Option Addr} {ac:Nat} {E:EnvD} (k:Ek B w pe h hs ao ac E) (hb:Below w.heap.size w w'):Ek B w' pe h hs ao ac E:=
 ⟨k.ck.below hb,k.sk.below hb,(hb.cell k.ck.lt).trans k.c13,(hb.cell k.ck.lt).trans k.c14,(hb.cell k.ck.lt).trans k.c15,k.able.mono fun _ _ _ hg=>boolAt.below (hb.mono k.leW) hg⟩
structure Ok (E:EnvD):Prop where
 good:goodB E.m=true
 may:mayB E.m E.s=true
 pid: -1≤E.pid∧E.pid < E.s.procs.length
def truthI (b:Bool):Int:=if b=true then 1 else 0
def slotsL (E:EnvD) (pid:Int):List Int:=if pid < 0 then E.s.globals else (E.s.procs[pid.toNat]?.map (·.frame)).getD []
def typeOfP (E:EnvD) (pid:Int):Int:=(E.s.procs[pid.toNat]?.map (·.type)).getD 0
def dimsF (ev:Int→Int × Int):List DimD→Int→Int × Int
 | [],a=>(a,0)
 | d :: r,a=>if (ev d.i).2≠0 then (0,(ev d.i).2) else if (ev d.i).1 < 0∨d.len≤ (ev d.i).1 then (0,47) else dimsF ev r (a+ (ev d.i).1*d.stride)
def pidB (E:EnvD) (ev:Int→Int × Int) (v:VarD):Int × Int:=
 if v.scope=1 then (if E.pid < 0 then (0,42) else (E.pid,0))
 else if v.scope=2 then (if (ev v.who).2≠0 then (0,(ev v.who).2) else if (ev v.who).1 < 0∨ (E.s.procs.length:Int)≤ (ev v.who).1∨typeOfP E (ev v.who).1≠v.type then (0,52) else ((ev v.who).1,0))
 else (-1,0)
def rslotB (E:EnvD) (ev:Int→Int × Int) (x:ExprD):Int × Int × Int:=
 if x.op≠2 then (0,0,42) else if (pidB E ev x.v).2≠0 then (0,0,(pidB E ev x.v).2)
 else if ((slotsL E (pidB E ev x.v).1).length:Int) < reachL x.v then (0,0,42)
 else if (dimsF ev x.v.dims x.v.slot).2≠0 then (0,0,(dimsF ev x.v.dims x.v.slot).2) else ((pidB E ev x.v).1,(dimsF ev x.v.dims x.v.slot).1,0)
def rchanB (E:EnvD) (ev:Int→Int × Int) (a:Int):Int × Int:=if (ev a).2≠0 then (0,(ev a).2) else if (ev a).1 < 1∨ (E.s.chans.length:Int) < (ev a).1 then (0,49) else ((ev a).1,0)
def chosenB (ev:Int→Int × Int) (x:ExprD):Int × Int:=
 if (ev x.a).2≠0 then (0,(ev x.a).2) else if x.op=22∧ (ev x.a).1=0 then (0,0) else if x.op=23∧ (ev x.a).1≠0 then (1,0)
 else if x.op=24∧ (ev x.a).1=0 then (if (ev x.c).2≠0 then (0,(ev x.c).2) else ((ev x.c).1,0))
 else if (ev x.b).2≠0 then (0,(ev x.b).2) else if x.op=24 then ((ev x.b).1,0) else (truthI (decide ((ev x.b).1≠0)),0)
def chanNo (E:EnvD) (n:Int):ChanD:=E.s.chans[(n - 1).toNat]?.getD ⟨0,[]⟩
def shapeNo (E:EnvD) (c:ChanD):ShapeD:=E.m.shapes[c.shape.toNat]?.getD ⟨0,[]⟩
def roomOp (op size most:Int):Int:=if op=26 then truthI (decide (most≤size)) else if op=28 then truthI (!decide (most≤size)) else if op=27 then truthI (decide (size=0)) else if op=29 then truthI (!decide (size=0)) else size
def rroomB (E:EnvD) (ev:Int→Int × Int) (x:ExprD):Int × Int:=
 if (rchanB E ev x.a).2≠0 then (0,(rchanB E ev x.a).2) else (roomOp x.op (chanNo E (rchanB E ev x.a).1).queue.length (shapeNo E (chanNo E (rchanB E ev x.a).1)).room,0)
def wantedF (ev:Int→Int × Int):List (Int × Int)→List Int × Int
 | []=>([],0)
 | z :: r=>if z.2=1 then (if (ev z.1).2≠0 then ([],(ev z.1).2) else if (wantedF ev r).2≠0 then ([],(wantedF ev r).2) else ((ev z.1).1 :: (wantedF ev r).1,0)) else if (wantedF ev r).2≠0 then ([],(wantedF ev r).2) else (0 :: (wantedF ev r).1,0)
def matchesB (want mat:List Int) (msg:List Int):Bool:=decide (mat.length≤msg.length∧mat.length≤want.length) && (List.range mat.length).all (fun i=> !(decide (mat.getD i 0=1) && decide (msg.getD i 0≠want.getD i 0)))
def findF (want mat:List Int) (any:Bool):List (List Int)→Nat→Int
 | [],_=> -1
 | msg :: r,i=>if 0 < i∧any=false then -1 else if matchesB want mat msg=true then i else findF want mat any r (i+1)
def rpollB (E:EnvD) (ev:Int→Int × Int) (x:ExprD):Int × Int:=
 if (rchanB E ev x.a).2≠0 then (0,(rchanB E ev x.a).2) else if (shapeNo E (chanNo E (rchanB E ev x.a).1)).fields.length≠x.args.length then (0,49)
 else if (wantedF ev (x.args.zip x.mat)).2≠0 then (0,(wantedF ev (x.args.zip x.mat)).2)
 else (truthI (decide (0≤findF (wantedF ev (x.args.zip x.mat)).1 x.mat (decide (x.n=1)) (chanNo E (rchanB E ev x.a).1).queue 0)),0)
def locOf (E:EnvD) (p:ProcessD):Option LocD:=(E.m.procs[p.type.toNat]?).bind (fun t=>t.locs[p.loc.toNat]?)
def inProgress (E:EnvD) (p:ProcessD):Bool:=((locOf E p).map (·.progress)).getD false
def knownB (E:EnvD) (op:Int):Int:=if op=31 then E.pid else if op=32 then E.s.last else if op=33 then E.s.procs.length else if op=34 then truthI (E.s.procs.all (fun p=> !inProgress E p)) else truthI E.timeout
def askedB (E:EnvD) (x:ExprD) (who:Int):Int × Int:=
 if x.op=36 then (truthI (decide (0≤who∧who < E.able.length) && E.able.getD who.toNat false),0)
 else match (if who < 0 then none else E.s.procs[who.toNat]?) with
  | none=>(0,52)
  | some p=>if x.op=37 then (p.loc,0) else if p.type≠x.n then (0,52) else (truthI (x.args.any (fun q=>decide (q=p.loc))),0)
def slotVal (E:EnvD) (pid slot:Int):Int:=(slotsL E pid).getD slot.toNat 0
def evalB (E:EnvD) (ev:Int→Int × Int) (x:ExprD):Int × Int:=
 if x.op=1 then (x.n,0)
 else if x.op=2 then (if (rslotB E ev x).2.2≠0 then (0,(rslotB E ev x).2.2) else (slotVal E (rslotB E ev x).1 (rslotB E ev x).2.1,0))
 else if 3≤x.op∧x.op≤5 then (if (ev x.a).2≠0 then (0,(ev x.a).2) else val.one x.op (ev x.a).1)
 else if 22≤x.op∧x.op≤24 then chosenB ev x
 else if 25≤x.op∧x.op≤29 then rroomB E ev x
 else if x.op=30 then rpollB E ev x
 else if 31≤x.op∧x.op≤35 then (knownB E x.op,0)
 else if 36≤x.op∧x.op≤38 then (if (ev x.a).2≠0 then (0,(ev x.a).2) else askedB E x (ev x.a).1)
 else if x.op=39 then (0,42)
 else if (ev x.a).2≠0 then (0,(ev x.a).2) else if (ev x.b).2≠0 then (0,(ev x.b).2) else val.two x.op (ev x.a).1 (ev x.b).1
def evalF (E:EnvD):Nat→Int→Int × Int
 | 0,_=>(0,0)
 | f+1,i=>match E.m.exprs[i.toNat]? with
   | some x=>evalB E (evalF E f) x
   | none=>(0,0)
def EvC (B pe:Nat) (h:MH) (hs:SH) (ao:Option Addr) (ac:Nat) (E:EnvD) (ev:Int→Int × Int) (N:Nat):Prop:=
 ∀ (p:Int) (W:World),0≤p→p < N→Ek B W pe h hs ao ac E→Calls Tryz.prog 39 #[.pointer (some ⟨pe,0,none⟩),.int .i64 p] W fun e W'=>e= .returned (.tuple #[.int .i64 (ev p).1,.int .i64 (ev p).2])∧Below W.heap.size W W'
theorem ret2 {a b c d:Int} (h:a=b) (h2:c=d):Ending.returned (.tuple #[.int .i64 a,.int .i64 c])= .returned (.tuple #[.int .i64 b,.int .i64 d]):=by rw [h,h2]
theorem may_proc {E:EnvD} (hk:Ok E) {i:Nat} {p:ProcessD} (hp:E.s.procs[i]? =some p):∃t,E.m.procs[p.type.toNat]? =some t∧0≤p.type∧p.type < E.m.procs.length∧0≤p.loc∧p.loc < t.locs.length∧p.frame.length=t.frame.length:=by
 have h1:=hk.may;unfold mayB at h1;simp only [Bool.and_eq_true] at h1;have h2:=h1.1.2;rw [List.all_eq_true] at h2;have h3:=h2 p (List.mem_of_getElem? hp);unfold procMayB procHeadB procFB at h3;simp only [Bool.and_eq_true,decide_eq_true_eq] at h3;obtain ⟨⟨h4,h5,_⟩,h6⟩:=h3;split at h6
 · rename_i t ht
   simp only [Bool.and_eq_true,decide_eq_true_eq] at h6;obtain ⟨⟨h7,h8,_⟩,h9⟩:=h6;unfold fitsL at h9;simp only [Bool.and_eq_true,decide_eq_true_eq] at h9;exact ⟨t,ht,h4,h5,h7,h8,h9.1⟩
 · cases h6
theorem may_chan {E:EnvD} (hk:Ok E) {i:Nat} {c:ChanD} (hc:E.s.chans[i]? =some c):∃s,E.m.shapes[c.shape.toNat]? =some s∧0≤c.shape∧c.shape < E.m.shapes.length:=by
 have h1:=hk.may;unfold mayB at h1;simp only [Bool.and_eq_true] at h1;have h2:=h1.1.1.2;rw [List.all_eq_true] at h2;have h3:=h2 c (List.mem_of_getElem? hc);unfold chanMayB chanHeadB chanFB at h3;simp only [Bool.and_eq_true,decide_eq_true_eq] at h3;obtain ⟨⟨h4,h5⟩,h6⟩:=h3;split at h6
 · rename_i t ht
   exact ⟨t,ht,h4,h5⟩
 · cases h6
theorem good_ex {E:EnvD} (hk:Ok E):EX E.m:=by
 have h:=hk.good;unfold goodB checkL at h;rw [decide_eq_true_eq] at h;by_cases h3: (expressionsL E.m).2=true
 · exact EX.of h3
 · have h4: (expressionsL E.m).2=false:=by simpa using h3
   rw [if_pos h4] at h
   repeat' (split at h)
   all_goals (simp at h)
end Go.Proofs.YthfldokfnjpkmaaGreatDoor
namespace Go.Proofs.YthfldokfnjpkmaaGreatDoor
open Go.ChangeShapes Go.WideShapes Go.ChangeAt Go.RowKit
theorem truthC (b:Bool) (w:World):Calls Tryz.prog 114 #[.bool b] w fun e w'=>e= .returned (.int .i64 (truthI b))∧w=w':=by
 cases b
 · go_enter Tryz.func114,Tryz.ntmps114;go_wp2_with fail;go_ret;exact ⟨rfl,rfl⟩
 · go_enter Tryz.func114,Tryz.ntmps114;go_wp2_with fail;go_ret;exact ⟨rfl,rfl⟩
set_option maxRecDepth 100000 in
theorem slotsC {B pe:Nat} {h:MH} {hs:SH} {ao:Option Addr} {ac:Nat} {E:EnvD} (pid:Int) (w:World) (hk:Ek B w pe h hs ao ac E) (hp:pid < E.s.procs.length):
 Calls Tryz.prog 63 #[.pointer (some ⟨pe,0,none⟩),.int .i64 pid] w fun e w'=>∃o c,Row B o 1 (intAt w) (slotsL E pid)∧e= .returned (.slice o (slotsL E pid).length c)∧w=w':=by
 have HK:=Lib.hid hk;have c7:=hk.sk.c0;have c9:=hk.sk.c2;clear hk;by_cases hn:pid < 0
 · have hd:decide (pid < 0)=true:=decide_eq_true hn;have HV:Hid (slotsL E pid=E.s.globals):=Lib.hid (by unfold slotsL;rw [if_pos hn]);go_enter Tryz.func63,Tryz.ntmps63;go_wp2_with fail;go_ret;rw [HV.out];exact ⟨_,_,HK.out.sk.sd.globals,rfl,rfl⟩
 · have hd:decide (pid < 0)=false:=decide_eq_false hn;obtain ⟨k,rfl⟩:∃k:Nat,pid=k:=⟨pid.toNat,by omega⟩;have hkl:k < E.s.procs.length:=by omega
   have hkz: (0:Int)≤k:=by omega
   obtain ⟨p,hpk⟩:∃s,E.s.procs[k]? =some s:=⟨_,List.getElem?_eq_getElem hkl⟩;have HV:Hid (slotsL E k=p.frame):=Lib.hid (by unfold slotsL;rw [if_neg hn,Int.toNat_natCast,hpk];rfl);have hpl:=HK.out.sk.sd.procs.1;obtain ⟨g,off,ho,hg,hpa⟩:=HK.out.sk.sd.procs.get hpk;rw [ho] at c9;obtain ⟨qo,qc,q3,hq⟩:=hpa.frame;have HQ:=Lib.hid hq;clear hq hpa hpk ho hn;go_enter Tryz.func63,Tryz.ntmps63;go_wp2_with fail;go_ret;rw [HV.out];exact ⟨_,_,HQ.out,rfl,rfl⟩
end Go.Proofs.YthfldokfnjpkmaaGreatDoor
