/- The document's reader of a state's numbers: take, one. -/
import Derived.Test.YtnoibjahliafpaaGreatDoorM42
import Derived.Test.YtnoibjahliafpaaGreatDoorM40
import Derived.Test.YtnoibjahliafpaaGreatDoorM35
import Derived.Deep.RegionHeld3
import Derived.BigQuiet
import Derived.Test.YtnoibjahliafpaaGreatDoorM45
import Derived.Test.YtnoibjahliafpaaGreatDoorM01
import Derived.Test.YtnoibjahliafpaaGreatDoorM43
import Derived.Test.YtnoibjahliafpaaGreatDoorM05
set_option linter.unusedVariables false
set_option linter.unusedSimpArgs false
namespace Go.Proofs.YtnoibjahliafpaaGreatDoor
open Go.ChangeShapes Go.WideShapes Go.ChangeAt Go.RowKit
structure RY (rb lb:Nat) (L:List Int) (r:RdS) (W:World):Prop where
 blk:∃ (k:Nat) (lo:Option Addr) (lc:Nat),k≤L.length∧r.left=L.drop k∧W.heap[rb]? =some (.cells #[.slice lo L.length lc,.int .i64 (k:Int),.bool r.wrong] 98 (0,0))∧Row lb lo 1 (intAt W) L
 le:lb≤rb
section
variable {rb lb:Nat} {L:List Int} {r:RdS} {W W1:World}
theorem RY.lt (h:RY rb lb L r W):rb < W.heap.size:=by
 obtain ⟨k,lo,lc,-,-,hb,-⟩:=h.blk;exact lt_of_block hb
theorem RY.below (h:RY rb lb L r W) (hb:Below W.heap.size W W1):RY rb lb L r W1:=by
 obtain ⟨k,lo,lc,h1,h2,h3,h4⟩:=h.blk;have hl:=h.lt;exact ⟨⟨k,lo,lc,h1,h2,(hb.block _ hl).trans h3,h4.mono fun _ _ _ hg=>intAt.below (hb.mono (by have:=h.le;omega)) hg⟩,h.le⟩
theorem RY.other {b:Nat} (h:RY rb lb L r W) (hg:W.grownBy W1 (some b)) (hb:rb < b):RY rb lb L r W1:=by
 obtain ⟨k,lo,lc,h1,h2,h3,h4⟩:=h.blk;have hl:=h.lt;refine ⟨⟨k,lo,lc,h1,h2,gb_heap hg h3 (by omega),h4.mono fun g a x hgl hx=> ?_⟩,h.le⟩;have:=h.le;exact (World.cell?_of_block (hg.block g (by omega) (by simp;omega))).trans hx
theorem RY.bad (h:RY rb lb L r W):RY rb lb L ⟨r.left,true⟩ (W.setCell ⟨rb,2,none⟩ (.bool true)):=by
 obtain ⟨k,lo,lc,h1,h2,h3,h4⟩:=h.blk;refine ⟨⟨k,lo,lc,h1,h2,(heap_setCell_same _ _ _ _ _ _ h3).trans rfl,h4.mono fun g a x hgl hx=> ?_⟩,h.le⟩;have:=h.le;exact (World.cell?_of_block (heap_setCell_other _ _ _ _ (by show g≠rb;omega))).trans hx
end
def TkP (rb lb:Nat) (L l:List Int) (r:RdS) (W:World) (e:Ending) (W':World):Prop:=
 ∃o c,e= .returned (.slice o l.length c)∧W'.ownsRow W.heap.size 2 1 (.slice o l.length c) l.length (intsV l)∧RY rb lb L r W'∧W.grownBy W' (some rb)
set_option maxRecDepth 100000 in
set_option maxHeartbeats 2000000 in
theorem takeC {rb lb:Nat} {L:List Int} {r:RdS} (n:Nat) {W:World} (hn:n≤100000) (h:RY rb lb L r W):
 Calls Tryz.prog 51 #[.pointer (some ⟨rb,0,none⟩),.int .i64 n] W (TkP rb lb L (tkF n r).1 (tkF n r).2 W):=by
 have HH0:Hid (∃o c,Value.slice none 0 0= .slice o 0 c∧W.ownsRow W.heap.size 2 1 (.slice o 0 c) 0 (intsV (r.left.take 0))∧RY rb lb L ⟨r.left.drop 0,r.wrong⟩ W∧W.grownBy W (some rb)):=Lib.hid ⟨none,0,rfl,by simpa [intsV] using World.ownsRow_nil _ _ _ _,by simpa using h,gb_refl _ _⟩;have HRB:=Lib.hid h.lt;have HLE:=Lib.hid h.le;obtain ⟨ii,hi1,hi2,hi3,hi4⟩:=info_parts info_ints;have HI:=Lib.hid (And.intro hi1 (And.intro hi2 (And.intro hi3 hi4)));clear h hi1 hi2 hi3 hi4;go_enter Tryz.func51,Tryz.ntmps51;go_wp2_with fail
 go_loopw [5,6] (fun lv iv W1=>∃i:Nat,iv= .int .i64 i∧i≤n∧i≤r.left.length∧Hid (∃o c,lv= .slice o i c∧W1.ownsRow W.heap.size 2 1 (.slice o i c) i (intsV (r.left.take i))∧RY rb lb L ⟨r.left.drop i,r.wrong⟩ W1∧W.grownBy W1 (some rb))) (fun _ iv _=>n - (intOf iv).toNat)
 case atStart=>exact ⟨0,rfl,by omega,by omega,HH0⟩
 case round=>
  clear HH0;obtain ⟨i,rfl,hi,hil,HH⟩:=hrel;obtain ⟨o,c,rfl,ho,hx,hg⟩:=HH.out;have hi0: (0:Int)≤i:=by omega
  have HO:=Lib.hid ho;have HX:=Lib.hid hx;have HG:=Lib.hid hg;clear ho hx hg HH;by_cases hlt:i < n
  · have hlti: (i:Int) < n:=by omega
    obtain ⟨k,lo,lc,hk,hdr,hbx,hrow⟩:=HX.out.blk;simp only at hdr hbx;have hL:=hrow.1;have x0:wr.cell? ⟨rb,0,none⟩=some (.slice lo L.length lc):=(cell_of_row _ _ 0 _ _ _ hbx).trans rfl;have x1:wr.cell? ⟨rb,1,none⟩=some (.int .i64 (k:Int)):=(cell_of_row _ _ 1 _ _ _ hbx).trans rfl;have x2:wr.cell? ⟨rb,2,none⟩=some (.bool r.wrong):=(cell_of_row _ _ 2 _ _ _ hbx).trans rfl;have f2:=frozen_of_row _ _ 2 _ _ hbx;have hlen:r.left.length - i=L.length - k:=by
     have:=congrArg List.length hdr;simpa using this
    by_cases hle:i=r.left.length
    · have hke:k=L.length:=by omega
      have hd:decide ((L.length:Int)≤ (k:Int))=true:=decide_eq_true (by omega);have HZ:Hid (∀W',Below wr.heap.size wr W'→TkP rb lb L (tkF n r).1 (tkF n r).2 W (.returned (.slice o i c)) (W'.setCell ⟨rb,2,none⟩ (.bool true))):=Lib.hid (fun W' hb=>by
       have e1:tkF n r= (r.left,⟨[],true⟩):=by unfold tkF;rw [if_neg (by omega)]
       rw [e1];subst hle;refine ⟨o,c,rfl, ?_, ?_,gb_trans (gb_trans HG.out (gb_below hb)) (gb_set _ _ _ _)⟩
       · have h1:=owns_below HO.out hb;rw [List.take_length] at h1;exact h1.kept (gb_set _ _ _ _) (.inr fun e=>by have:=(HO.out.lt _ e).1;have:=HRB.out;omega)
       · have h1:=(HX.out.below hb).bad;simp only [List.drop_length] at h1;exact h1)
      clear hbx hrow hdr hlen HO HX HG hle;go_upto_region 5 with fail
      go_quiet (fail);go_wp2_with fail;go_ret;exact HZ.out _ (bdrew (Below.refl _ _) _)
    · have hkl:k < L.length:=by omega
      have hki: (k:Int) < L.length:=by omega
      have hk0: (0:Int)≤k:=by omega
      have hd:decide ((L.length:Int)≤ (k:Int))=false:=decide_eq_false (by omega);obtain ⟨g,off,rfl,hgl,e1⟩:=hrow.cell hkl;unfold intAt at e1;rw [Nat.mul_one] at e1;obtain ⟨v,hv⟩:∃v,L[k]=v:=⟨_,rfl⟩;rw [hv] at e1;have hld:r.left[i]'(by omega)=v:=by
       have h1: (r.left.drop i)[0]'(by simp;omega)= (L.drop k)[0]'(by simp;omega):=by simp only [hdr]
       simpa [hv] using h1
      have HBX:=Lib.hid hbx;have HRN:Hid (∀W',Below W.heap.size wr W'→RY rb lb L ⟨r.left.drop (i+1),r.wrong⟩ (W'.setCell ⟨rb,1,none⟩ (.int .i64 ((k:Int)+1)))):=Lib.hid fun W' hb=>by
       have hlt:=HRB.out;refine ⟨⟨k+1,_,_,hkl, ?_,(heap_setCell_same _ _ _ _ _ _ ((hb.block _ hlt).trans hbx)).trans rfl,hrow.mono fun g a x hgl hx=> ?_⟩,HLE.out⟩
       · have:=congrArg (List.drop 1) hdr;simpa [List.drop_drop] using this
       · have:=HLE.out;exact (World.cell?_of_block (heap_setCell_other _ _ _ _ (by show g≠rb;omega))).trans (intAt.below (hb.mono (by omega)) hgl hx)
      have HTK:Hid (intsV (r.left.take i) ++ [Value.int .i64 v]=intsV (r.left.take (i+1))):=Lib.hid (by
       rw [List.take_succ_eq_append_getElem (by omega),hld];simp [intsV])
      have HQ:Hid (∀W',Below wr.heap.size wr W'→W'.cell? ⟨rb,0,none⟩=some (.slice (some ⟨g,off,none⟩) L.length lc)∧W'.cell? ⟨rb,1,none⟩=some (.int .i64 (k:Int))∧W'.cell? ⟨g,off+k,none⟩=some (.int .i64 v)∧W'.frozen? ⟨rb,1,none⟩=false):=Lib.hid fun W' hb=>by
       have hl:=lt_of_block hbx;have h1:=(hb.block _ hl).trans hbx;have:=HLE.out;exact ⟨(cell_of_row _ _ 0 _ _ _ h1).trans rfl,(cell_of_row _ _ 1 _ _ _ h1).trans rfl,(hb.cell (p:=⟨g,off+k,none⟩) (by show g < _;omega)).trans e1,frozen_of_row _ _ 1 _ _ h1⟩
      clear hbx hrow hdr hld hgl hv x2 f2;go_upto_region 5 with fail
      go_quiet (fail);have HB2:Hid (Below wr.heap.size wr (wr.drewN nq)):=Lib.hid (bdrew (Below.refl _ _) _);generalize wr.drewN nq=W2 at HB2 ⊢;clear x0 x1 e1;have x0:=(HQ.out W2 HB2.out).1;have x1:=(HQ.out W2 HB2.out).2.1;have e1:=(HQ.out W2 HB2.out).2.2.1;have HOW:Hid (∀W':World,W'.heap= (W2.alloc (.cells #[.int .i64 v] 2)).heap→W'.ownsRow W.heap.size 2 1 (.slice o i c) i (intsV (r.left.take i))∧W.heap.size≤W'.heap.size):=Lib.hid fun W' hh=>by
       have h1:=(owns_below HO.out HB2.out).alloc (.cells #[.int .i64 v] 2);refine ⟨by unfold World.ownsRow at h1 ⊢;rw [hh];exact h1, ?_⟩;have:=HG.out.size;have:=HB2.out.size;simp [hh];omega
      have HFI:Hid (∀W' W3:World,W'.grownBy W3 (Value.slice o i c).ownBlock→Below W2.heap.size W2 W'→Below W.heap.size wr W3):=Lib.hid fun W' W3 hg hb=>by
       have h2:=HB2.out.trans (hb.mono HB2.out.size);exact Below.grown (h2.mono HG.out.size) hg (by have:=HG.out.size;have:=h2.size;omega) (fun q hq=>(HO.out.lt q hq).1)
      have hba:=ball (w:=W2) (.cells #[.int .i64 v] 2);clear HB2;go_upto_region 8 with fail
      go_region_law
       (refine step_append_keep rfl _ _ 23 rfl W.heap.size 2 ii (.int .i64 0) 1 8 Tryz.underlying23 HI.out.1 HI.out.2.1 HI.out.2.2.1 HI.out.2.2.2 rfl (by decide) (.slice o i c) i (intsV (r.left.take i)) rfl (HOW.out _ rfl).1 ⟨W2.heap.size,0,none⟩ 1 1 [.int .i64 v] rfl rfl (arr_one W2 _ _) (by simp [Value.oneCell']) (by unfold maxLen;omega) (by omega) (HOW.out _ rfl).2 ?_;intro o3 c3 W3 ho3 hg3 hn3;have hb3:=HFI.out _ W3 hg3 ⟨hba.os,hba.tape,hba.output,hba.size,hba.block⟩)
      all_goals (
       have hbk:=(hb3.block _ HRB.out).trans HBX.out;have z1:W3.cell? ⟨rb,1,none⟩=some (.int .i64 (k:Int)):=(cell_of_row _ _ 1 _ _ _ hbk).trans rfl;have f1:=frozen_of_row _ _ 1 _ _ hbk;have HZ:Hid (∃o c,Value.slice o3 (i+1) c3= .slice o (i+1) c∧ (W3.setCell ⟨rb,1,none⟩ (.int .i64 ((k:Int)+1))).ownsRow W.heap.size 2 1 (.slice o (i+1) c) (i+1) (intsV (r.left.take (i+1)))∧RY rb lb L ⟨r.left.drop (i+1),r.wrong⟩ (W3.setCell ⟨rb,1,none⟩ (.int .i64 ((k:Int)+1)))∧W.grownBy (W3.setCell ⟨rb,1,none⟩ (.int .i64 ((k:Int)+1))) (some rb)):=Lib.hid (by
        rw [HTK.out] at ho3;have hg9:=gb_set W3 rb 1 (.int .i64 ((k:Int)+1));refine ⟨o3,c3,rfl,ho3.kept hg9 (.inr fun e=>by have:=(ho3.lt _ e).1;have:=HRB.out;omega),HRN.out W3 hb3, ?_⟩;have hW:Below W.heap.size wr W3:=hb3;have hg:=HG.out;exact ⟨hg9.os.trans (hW.os.trans hg.os),hg9.tape.trans (hW.tape.trans hg.tape),hg9.output.trans (hW.output.trans hg.output),Nat.le_trans hg.size (Nat.le_trans hW.size hg9.size),fun q hq hne=>(hg9.block q (Nat.lt_of_lt_of_le hq (Nat.le_trans hg.size hW.size)) hne).trans ((hW.block q hq).trans (hg.block q hq hne))⟩)
       clear hbk ho3 hg3 hn3 hb3 hba
       try simp only [Exit.inBlock,Exit.then]
       go_wp2_with fail;go_roundw;case rel=>exact ⟨i+1,by go_num,by omega,by omega,HZ⟩
       case measure=>simp [intOf];omega)
  · have hlti:¬ (i:Int) < n:=by omega
    have hin:i=n:=by omega
    have HZ:Hid (TkP rb lb L (tkF n r).1 (tkF n r).2 W (.returned (.slice o i c)) wr):=Lib.hid (by
     subst hin;have e1:tkF i r= (r.left.take i,⟨r.left.drop i,r.wrong⟩):=by unfold tkF;rw [if_pos hil]
     rw [e1];have e2: (r.left.take i).length=i:=by simp;omega
     refine ⟨o,c,by simp only [e2],by simp only [e2];exact HO.out,HX.out,HG.out⟩)
    clear hin;go_wp2_with fail;go_ret;exact HZ.out
def OnP (rb lb:Nat) (L:List Int) (v:Int) (r:RdS) (W:World) (e:Ending) (W':World):Prop:=e= .returned (.int .i64 v)∧RY rb lb L r W'∧W.grownBy W' (some rb)
set_option maxRecDepth 100000 in
set_option maxHeartbeats 2000000 in
theorem oneC {rb lb:Nat} {L:List Int} {r:RdS} (lo hi:Int) {W:World} (h:RY rb lb L r W):
 Calls Tryz.prog 52 #[.pointer (some ⟨rb,0,none⟩),.int .i64 lo,.int .i64 hi] W (OnP rb lb L (onF lo hi r).1 (onF lo hi r).2 W):=by
 have HT:=Lib.hid (takeC 1 (by omega) h);have HRB:=Lib.hid h.lt;clear h;go_enter Tryz.func52,Tryz.ntmps52;go_wp2_with fail;refine HT.out.mono ?_;rintro e W1 ⟨o,c,rfl,ho,hx,hg⟩;have HX:=Lib.hid hx;have HG:=Lib.hid hg;obtain ⟨L2,wr⟩:=r;have hb2:=(show W1.cell? ⟨rb,2,none⟩=some (.bool (tkF 1 ⟨L2,wr⟩).2.wrong) from by
  obtain ⟨k,lo,lc,-,-,hb,-⟩:=hx.blk;exact (cell_of_row _ _ 2 _ _ _ hb).trans rfl)
 have f2:W1.frozen? ⟨rb,2,none⟩=false:=by
  obtain ⟨k,lo,lc,-,-,hb,-⟩:=hx.blk;exact frozen_of_row _ _ _ _ _ hb
 have HZB:Hid (((tkF 1 ⟨L2,wr⟩).2.wrong=true∨ (tkF 1 ⟨L2,wr⟩).1.headD 0 < lo∨hi≤ (tkF 1 ⟨L2,wr⟩).1.headD 0)→OnP rb lb L (onF lo hi ⟨L2,wr⟩).1 (onF lo hi ⟨L2,wr⟩).2 W (.returned (.int .i64 0)) (W1.setCell ⟨rb,2,none⟩ (.bool true))):=Lib.hid fun hc=>by
  have e1:onF lo hi ⟨L2,wr⟩= (0,⟨(tkF 1 ⟨L2,wr⟩).2.left,true⟩):=by unfold onF;rw [if_pos hc]
  rw [e1];exact ⟨rfl,HX.out.bad,gb_trans HG.out (gb_set _ _ _ _)⟩
 cases L2 with
 | nil=>
   have e1: (tkF 1 ⟨[],wr⟩)= ([],⟨[],true⟩):=by unfold tkF;rw [if_neg (by simp)]
   have HZ:=Lib.hid (HZB.out (.inl (by rw [e1])));rw [e1] at hb2;simp only [e1];have hl0: (([]:List Int).length:Int)=0:=rfl;clear ho hx hg HZB e1;go_wp2_with fail;go_ret;exact HZ.out
 | cons v t=>
   have e1: (tkF 1 ⟨v :: t,wr⟩)= ([v],⟨t,wr⟩):=by unfold tkF;rw [if_pos (by simp)];simp
   rw [e1] at hb2 ho HZB;simp only [e1];simp only at hb2;have y0:∃g,o=some ⟨g,0,none⟩∧W1.cell? ⟨g,0,none⟩=some (.int .i64 v):=by
    rcases owns_row ho with h0 | ⟨g,e,-,hg2,hc⟩
    · simp at h0
    · exact ⟨g,e,by have:=hc 0 (by simp);simpa [intsV] using this⟩
   obtain ⟨g,rfl,y0⟩:=y0;have hl1: (([v]:List Int).length:Int)=1:=rfl;clear ho hx hg;cases wr;rotate_left
   · have HZ:=Lib.hid (HZB.out (.inl rfl));clear HZB e1;go_wp2_with fail;go_ret;exact HZ.out
   · by_cases h1:v < lo
     · have HZ:=Lib.hid (HZB.out (.inr (.inl h1)));clear HZB e1;go_wp2_with fail;go_ret;exact HZ.out
     · by_cases h2:hi≤v
       · have HZ:=Lib.hid (HZB.out (.inr (.inr h2)));clear HZB e1;go_wp2_with fail;go_ret;exact HZ.out
       · have HZ:Hid (OnP rb lb L (onF lo hi ⟨v :: t,false⟩).1 (onF lo hi ⟨v :: t,false⟩).2 W (.returned (.int .i64 v)) W1):=Lib.hid (by
          have e2:onF lo hi ⟨v :: t,false⟩= (v,⟨t,false⟩):=by unfold onF;rw [e1,if_neg (by simp;omega)];rfl
          rw [e2];have hx:=HX.out;rw [e1] at hx;exact ⟨rfl,hx,HG.out⟩)
         clear HZB e1;go_wp2_with fail;go_ret;exact HZ.out
end Go.Proofs.YtnoibjahliafpaaGreatDoor
namespace Go.Proofs.YtnoibjahliafpaaGreatDoor
open Go.ChangeShapes Go.WideShapes Go.ChangeAt Go.RowKit
def QB (b:List UInt8) (R:Option (List Int × Bool)) (w:World) (k fr:Nat) (l:List Int) (o:Option Addr) (c:Nat) (W:World):Prop:=
 R=readQ (piece b fr k) (b.drop k) l∧W.ownsRow w.heap.size 2 1 (.slice o l.length c) l.length (intsV l)∧Below w.heap.size w W∧l.length≤k
set_option maxRecDepth 100000 in
set_option maxHeartbeats 4000000 in
theorem nums12H (b:List UInt8) (w:World) (hb:b.length≤4294967281):
 Calls Tryz.prog 50 #[.string ⟨b.toArray⟩] w (NmP (readQ [] b []) w):=by
 obtain ⟨R,hR⟩:∃R,readQ [] b []=R:=⟨_,rfl⟩;have HZ0:Hid (QB b R w 0 0 [] none 0 w):=Lib.hid ⟨by rw [←hR,piece_none];rfl,by simpa [intsV] using World.ownsRow_nil _ _ _ _,Below.refl _ _,by simp⟩;rw [hR];clear hR;obtain ⟨ii,hi1,hi2,hi3,hi4⟩:=info_parts info_ints;have HI:=Lib.hid (And.intro hi1 (And.intro hi2 (And.intro hi3 hi4)));clear hi1 hi2 hi3 hi4;go_enter Tryz.func50,Tryz.ntmps50;go_wp2_with fail
 go_loopw [4,5,6] (fun lv fv iv W=>∃ (k fr n:Nat) (o:Option Addr) (c:Nat),iv= .int .i64 k∧fv= .int .i64 fr∧lv= .slice o n c∧k≤b.length∧fr≤k∧Hid (∃l:List Int,l.length=n∧QB b R w k fr l o c W)) (fun _ _ iv _=>b.length - (intOf iv).toNat)
 case atStart=>exact ⟨0,0,0,none,0,rfl,rfl,rfl,by omega,by omega,Lib.hid ⟨[],rfl,HZ0.out⟩⟩
 case round=>
  clear HZ0;obtain ⟨k,fr,n,o,c,rfl,rfl,rfl,hk,hfr,HQ⟩:=hrel;obtain ⟨l,hln,hq⟩:=HQ.out;have HQB:=Lib.hid hq;subst hln;clear hq HQ;have hk0: (0:Int)≤k:=by omega
  have hf0: (0:Int)≤fr:=by omega
  by_cases hlt:k < b.length
  · have hlti: (k:Int) < b.length:=by omega
    have hb0:=bt_at2 b k hlt;obtain ⟨x,hx⟩:∃x,b[k]=x:=⟨_,rfl⟩;rw [hx] at hb0;have HX:=Lib.hid hx;have hdr:b.drop k=x :: b.drop (k+1):=by rw [←hx];exact List.drop_eq_getElem_cons hlt
    clear hx;by_cases hc:x=44
    · have hc2: ((x.toNat:Int) != 44)=false:=by rw [hc];rfl
      have hll:=HQB.out.2.2.2;have HRD:Hid ((∀v,num (piece b fr k)=some v→R=readQ [] (b.drop (k+1)) (l ++ [v]))∧ (num (piece b fr k)=none→R=none)):=Lib.hid (by
       rw [HQB.out.1,hdr,readQ,if_pos hc];exact ⟨fun v hv=>by rw [hv],fun hn=>by rw [hn]⟩)
      have hsl:=slice_piece b fr k hfr hk;have hfi: (fr:Int)≤k:=by omega
      obtain ⟨t,ht⟩:∃t,piece b fr k=t:=⟨_,rfl⟩;rw [ht] at HRD hsl;have HOK:Hid (Below w.heap.size w wr):=Lib.hid HQB.out.2.2.1;clear hdr hc ht;by_cases h1:t.length < 1
      · have HZ:Hid (NmP R w (.returned (.tuple #[.slice none 0 0,.bool false])) wr):=Lib.hid (.inr ⟨HRD.out.2 (num_long (.inl h1)),rfl,HOK.out⟩);have h1i: (t.length:Int) < 1:=by omega
        go_wp2_with fail;go_ret2;exact HZ.out
      by_cases h2:20 < t.length
      · have HZ:Hid (NmP R w (.returned (.tuple #[.slice none 0 0,.bool false])) wr):=Lib.hid (.inr ⟨HRD.out.2 (num_long (.inr h2)),rfl,HOK.out⟩);have h1i:¬ (t.length:Int) < 1:=by omega
        have h2i:20 < (t.length:Int):=by omega
        go_wp2_with fail;go_ret2;exact HZ.out
      have h1i:¬ (t.length:Int) < 1:=by omega
      have h2i:¬20 < (t.length:Int):=by omega
      have h0:0 < t.length:=by omega
      have b0:=bt_at t 0 h0;obtain ⟨y,hy⟩:∃y,t[0]=y:=⟨_,rfl⟩;rw [hy] at b0;have hty:t=y :: t.drop 1:=by
       rw [←hy];cases t with
       | nil=>simp at h0
       | cons x r=>rfl
      obtain ⟨neg,k0,hneg,hk0c,HS⟩:∃ (neg:Bool) (k0:Nat),((y.toNat:Int) == 45)=neg∧ ((neg=true∧Hid (k0=1))∨ (neg=false∧Hid (k0=0)))∧Hid (Split1 t neg (t.drop k0)):=by
       by_cases h45:y=45
       · refine ⟨true,1,by rw [h45];rfl,.inl ⟨rfl,Lib.hid rfl⟩,Lib.hid ⟨?_,fun h=>(by cases h)⟩⟩;rw [if_pos rfl,←h45];exact hty
       · refine ⟨false,0,b_ne h45,.inr ⟨rfl,Lib.hid rfl⟩,Lib.hid ⟨rfl,fun _ r e=>h45 ?_⟩⟩;rw [hty] at e;injection e
      have hk01:k0≤1:=by rcases hk0c with ⟨-,h⟩ | ⟨-,h⟩ <;> (have:=h.out;omega)
      obtain ⟨sg,hsg⟩:∃s,s=sgn neg:=⟨_,rfl⟩;have HSG:=Lib.hid hsg;clear hty hy hsg;rcases hk0c with ⟨rfl,HK0⟩ | ⟨rfl,HK0⟩
      all_goals (
       go_wp2_with fail
       go_loopw [9,10] (fun nv jv W=>∃ (q:Nat) (V:Int),jv= .int .i64 (k0+q:Nat)∧nv= .int .i64 V∧k0+q≤t.length∧Hid (V=wrap64 (sg*valD ((t.drop k0).take q)))∧Hid (QB b R w k fr l o c W)) (fun _ jv _=>t.length - (intOf jv).toNat)
       case atStart=>exact ⟨0,0,by rw [HK0.out];rfl,rfl,by omega,Lib.hid (by simp [valD,wrap64]),HQB⟩
       case round=>
        clear HQB HOK b0;obtain ⟨q,V,rfl,rfl,hq,HV,HQB⟩:=hrel;have hki: (0:Int)≤ (k0+q:Nat):=by omega
        by_cases hql:k0+q < t.length
        · obtain ⟨d,hd⟩:∃d,t[k0+q]=d:=⟨_,rfl⟩;have hcu:=bt_at t (k0+q) hql;rw [hd] at hcu;have hlti2: ((k0+q:Nat):Int) < t.length:=by omega
          obtain ⟨N,hN⟩:∃N,d.toNat=N:=⟨_,rfl⟩;have hcN: (⟨t.toArray⟩:ByteArray)[k0+q].toNat=N:=by rw [hcu,hN]
          have HN:=Lib.hid hN;have hkd:q < (t.drop k0).length:=by simp;omega
          have HC:Hid ((t.drop k0)[q]=d):=Lib.hid (by rw [←hd,List.getElem_drop]);have hN256:N < 256:=by rw [←hN];exact d.toNat_lt
          clear hd hcu hN;by_cases hlo:N < 48
          · have HZ:Hid (NmP R w (.returned (.tuple #[.slice none 0 0,.bool false])) wr):=Lib.hid (.inr ⟨HRD.out.2 (num_bad HS.out (c:=d) (by rw [←HC.out];exact List.getElem_mem _) (by simp [isDig,HN.out];omega)),rfl,HQB.out.2.2.1⟩);have hloi: (N:Int) < 48:=by omega
            go_wp2_with fail;go_ret2;exact HZ.out
          by_cases hhi:57 < N
          · have HZ:Hid (NmP R w (.returned (.tuple #[.slice none 0 0,.bool false])) wr):=Lib.hid (.inr ⟨HRD.out.2 (num_bad HS.out (c:=d) (by rw [←HC.out];exact List.getElem_mem _) (by simp [isDig,HN.out];omega)),rfl,HQB.out.2.2.1⟩);have hloi:¬ (N:Int) < 48:=by omega
            have hhii:57 < (N:Int):=by omega
            go_wp2_with fail;go_ret2;exact HZ.out
          have hloi:¬ (N:Int) < 48:=by omega
          have hhii:¬57 < (N:Int):=by omega
          have hwr: ((N:Int) - 48) % 256= (N:Int) - 48:=by omega
          go_wp2_with fail;go_roundw;case rel=>
           refine ⟨q+1,_,by go_num,rfl,by omega,Lib.hid ?_,HQB⟩;rw [List.take_succ_eq_append_getElem hkd,HC.out,valD_snoc,HN.out,HV.out,HSG.out];unfold wrap64;simp only [sgn];simp;omega
          case measure=>simp [intOf];omega
        · have hfull: (t.drop k0).take q=t.drop k0:=List.take_of_length_le (by simp;omega);have hV:=HV.out;rw [hfull,HSG.out] at hV;have HNUM:=Lib.hid (num_is HS.out hV);have HIN:Hid (inI V):=Lib.hid (by rw [hV];exact wrap_in _);have HD:=Lib.hid (decimalC V wr HIN.out);have hlti2:¬ ((k0+q:Nat):Int) < t.length:=by omega
          obtain ⟨it,hit⟩:∃it,Lib.itoa V=it:=⟨_,rfl⟩;unfold strV at HD;rw [hit] at HD HNUM;clear hfull hV hit HV HS HSG;go_wp2_with fail;refine HD.out.mono ?_;rintro e W2 ⟨rfl,hb2⟩;have HB2:Hid (Below w.heap.size w W2):=Lib.hid (HQB.out.2.2.1.trans (hb2.mono HQB.out.2.2.1.size));have HO2:=Lib.hid ((owns_below HQB.out.2.1 hb2).alloc (.cells #[.int .i64 V] 2));have HLE:Hid (w.heap.size≤ (W2.alloc (.cells #[.int .i64 V] 2)).heap.size):=Lib.hid (by have:=HB2.out.size;simp;omega);clear hb2 HD;by_cases he:it=t;rotate_left
          · have hee: (it == t)=false:=by simpa using he
            have HZ:Hid (NmP R w (.returned (.tuple #[.slice none 0 0,.bool false])) W2):=Lib.hid (.inr ⟨HRD.out.2 (by rw [HNUM.out,if_neg he]),rfl,HB2.out⟩);clear he;go_wp2_with fail;go_ret2;exact HZ.out
          · have hee: (it == t)=true:=by simpa using he
            have HRV:Hid (R=readQ [] (b.drop (k+1)) (l ++ [V])):=Lib.hid (HRD.out.1 V (by rw [HNUM.out,if_pos he]));subst he;go_wp2_with (at_builtin;refine wpList_append_keep rfl _ _ 23 rfl w.heap.size 2 ii (.int .i64 0) 1 8 Tryz.underlying23 HI.out.1 HI.out.2.1 HI.out.2.2.1 HI.out.2.2.2 rfl (by decide) (.slice o l.length c) l.length (intsV l) rfl HO2.out ⟨W2.heap.size,0,none⟩ 1 1 [.int .i64 V] rfl rfl (arr_one _ _ _) (by simp [Value.oneCell']) (by unfold maxLen;omega) (by omega) HLE.out ?_);intro o3 c3 W3 ho3 hg3 hn3;have HZ:Hid (∃l':List Int,l'.length=l.length+1∧QB b R w (k+1) (k+1) l' o3 c3 W3):=Lib.hid (by
             refine ⟨l ++ [V],by simp,by rw [piece_none];exact HRV.out, ?_,(HB2.out.trans ((ball _).mono HB2.out.size)).grown hg3 HLE.out (fun q hq=>(HO2.out.lt q hq).1),by simp;omega⟩;rw [List.length_append,List.length_singleton];simp only [intsV,List.map_append,List.map_cons,List.map_nil] at ho3 ⊢;exact ho3)
            clear ho3 hg3 hn3 HO2 HLE HB2 HQB;go_wp2_with fail;go_roundw;case rel=>exact ⟨k+1,k+1,l.length+1,o3,c3,by go_num,by go_num,rfl,by omega,by omega,HZ⟩
            case measure=>simp [intOf];omega)
    · have hc2: ((x.toNat:Int) != 44)=true:=b_ne44 hc;have HZ:Hid (∃l':List Int,l'.length=l.length∧QB b R w (k+1) fr l' o c wr):=Lib.hid (by
       obtain ⟨q1,q2,q3,q4⟩:=HQB.out;refine ⟨l,rfl, ?_,q2,q3,by omega⟩;rw [q1,hdr,readQ,if_neg hc,piece_next hfr hlt,HX.out])
      clear hdr hc;go_wp2_with fail;go_roundw;case rel=>exact ⟨k+1,fr,l.length,o,c,by go_num,rfl,rfl,by omega,by omega,HZ⟩
      case measure=>simp [intOf];omega
  · have hke:k=b.length:=by omega
    have hlti:¬ (k:Int) < b.length:=by omega
    have hde: ((fr:Int) == (b.length:Int))=decide (fr=b.length):=by
     rw [Bool.eq_iff_iff];simp;omega
    have HZ:Hid (NmP R w (.returned (.tuple #[.slice o l.length c,.bool (decide (fr=b.length))])) wr):=Lib.hid (by
     obtain ⟨q1,q2,q3,q4⟩:=HQB.out;refine .inl ⟨l,decide (fr=b.length),o,c, ?_,rfl,q2,q3⟩;rw [q1,hke,List.drop_length,readQ,piece_empty (by omega) (Nat.le_refl _)])
    obtain ⟨dd,hdd⟩:∃d,decide (fr=b.length)=d:=⟨_,rfl⟩;rw [hdd] at hde HZ;clear hke hdd;go_wp2_with fail;go_ret2;exact HZ.out
end Go.Proofs.YtnoibjahliafpaaGreatDoor
namespace Go.Proofs.YtnoibjahliafpaaGreatDoor
open Go.ChangeShapes Go.WideShapes Go.ChangeAt Go.RowKit
structure DL (w:World) (rb sb lb:Nat) (L:List Int) (CM:Array Value) (h:MH) (m:ModelD) (s:StateD) (hs:SH) (r:RdS) (W:World):Prop where
 mx:Mx w w.heap.size CM h m W
 o:W.heap[w.heap.size+1]? =some (.cells #[.slice none 0 0,.slice none 0 0,.slice none 0 0,.int .i64 0,.int .i64 0,.int .i64 0] 34 (0,0))
 x:RY rb lb L r W
 gr:W.ownsRow (rb+1) 2 1 (.slice hs.go s.globals.length hs.gc) s.globals.length (intsV s.globals)
 cr:CR (rb+1) W hs.co hs.cc s.chans
 pr:PRr (rb+1) W hs.po hs.pc s.procs
 s:W.heap[sb]? =some (.cells (sCells hs s) 34 (0,0))
 l1:w.heap.size+1 < rb
 l2:rb < sb
section
variable {w W W1 W3 Wc:World} {rb sb lb b:Nat} {L:List Int} {CM:Array Value} {h:MH} {m:ModelD} {s:StateD} {hs:SH} {r r1:RdS} {ob':Obj}
theorem Mx.gb (k:Mx w w.heap.size CM h m W) (hg:W.grownBy W1 (some b)) (hb:w.heap.size < b) (hl:b < W.heap.size):Mx w w.heap.size CM h m W1:=
 ⟨k.eq,⟨gb_heap hg k.bx.box (by omega),k.bx.bel.trans (gb_low hg (by omega) hl)⟩,k.md.below (gb_low hg (by omega) hl)⟩
theorem RY.c2 (h:RY rb lb L r W):W.cell? ⟨rb,2,none⟩=some (.bool r.wrong):=by
 obtain ⟨k,lo,lc,-,-,hb,-⟩:=h.blk;exact (cell_of_row _ _ 2 _ _ _ hb).trans rfl
theorem DL.mcell (k:DL w rb sb lb L CM h m s hs r W) {i:Nat} {v:Value} (hv: (mCells h m)[i]? =some v):W.cell? ⟨w.heap.size,i,none⟩=some v:=k.mx.bx.cell (by rw [k.mx.eq];exact hv)
theorem DL.below (k:DL w rb sb lb L CM h m s hs r W) (hb:Below W.heap.size W W1):DL w rb sb lb L CM h m s hs r W1:=
 ⟨k.mx.below hb,(hb.block _ (lt_of_block k.o)).trans k.o,k.x.below hb,owns_below k.gr hb,k.cr.below hb,k.pr.below hb,(hb.block _ (lt_of_block k.s)).trans k.s,k.l1,k.l2⟩
theorem DL.read (k:DL w rb sb lb L CM h m s hs r W) (hx:RY rb lb L r1 W1) (hg:W.grownBy W1 (some rb)):DL w rb sb lb L CM h m s hs r1 W1:=
 have h1:=k.l1;have h2:=k.l2
 ⟨k.mx.gb hg (by omega) k.x.lt,gb_heap hg k.o (by omega),hx,k.gr.kept hg (.inr fun e=>by have:=(k.gr.lt _ e).1;omega),k.cr.gb hg (by omega),k.pr.gb hg (by omega),gb_heap hg k.s (by omega),k.l1,k.l2⟩
theorem DL.cell (k:DL w rb sb lb L CM h m s hs r W) {i:Nat} {v:Value} (hv: (sCells hs s)[i]? =some v):W.cell? ⟨sb,i,none⟩=some v:=(cell_of_row _ _ _ _ _ _ k.s).trans hv
theorem DL.sset (k:DL w rb sb lb L CM h m s hs r W) (i:Nat) (v:Value) {s':StateD} {hs':SH} (he: (sCells hs s).setIfInBounds i v=sCells hs' s') (h1:s'.globals=s.globals) (h2:s'.chans=s.chans) (h3:s'.procs=s.procs) (h4:hs'=hs):DL w rb sb lb L CM h m s' hs' r (W.setCell ⟨sb,i,none⟩ v):=by
 have hg:=gb_set W sb i v;have q1:=k.l1;have q2:=k.l2;subst h4;refine ⟨k.mx.gb hg (by omega) (lt_of_block k.s),gb_heap hg k.o (by omega),k.x.other hg q2, ?_, ?_, ?_, ?_,q1,q2⟩
 · rw [h1];exact owns_set k.gr _ _ (owns_neObj k.gr k.s (by simp))
 · rw [h2];exact k.cr.set k.s i v
 · rw [h3];exact k.pr.set k.s i v
 · rw [←he];exact heap_setCell_same _ _ _ _ _ _ k.s
theorem RY.low (k:RY rb lb L r W) (hb:Below (rb+1) W W1):RY rb lb L r W1:=by
 obtain ⟨q,lo,lc,h1,h2,h3,h4⟩:=k.blk;have:=k.le;exact ⟨⟨q,lo,lc,h1,h2,(hb.block _ (by omega)).trans h3,h4.mono fun _ _ _ hgl=>intAt.below (hb.mono (by omega)) hgl⟩,k.le⟩
theorem Mx.low (k:Mx w w.heap.size CM h m W) (hb:Below (rb+1) W W1) (hl:w.heap.size < rb):Mx w w.heap.size CM h m W1:=
 ⟨k.eq,⟨(hb.block _ (by omega)).trans k.bx.box,k.bx.bel.trans (hb.mono (by omega))⟩,k.md.below (hb.mono (by omega))⟩
theorem DL.cstep {xs:List Value} {x:ChanD} {qo:Option Addr} {qc:Nat} {co':Option Addr} {cc':Nat} (k:DL w rb sb lb L CM h m s hs r W) (hq:W.ownsRow (rb+1) 66 2 (.slice hs.co s.chans.length hs.cc) s.chans.length xs)
 (hqm:∀i (hi:i < s.chans.length),xs[i*2]? =some (.int .i64 s.chans[i].shape)∧∃qo qc,xs[i*2+1]? =some (.slice qo s.chans[i].queue.length qc)∧QR (rb+1) W qo qc s.chans[i].queue) (hx:QR (rb+1) W qo qc x.queue)
 (hg: (W.alloc ob').grownBy W3 (Value.slice hs.co s.chans.length hs.cc).ownBlock) (hr:W3.ownsRow (rb+1) 66 2 (.slice co' (s.chans.length+1) cc') (s.chans.length+1) (xs ++ [.int .i64 x.shape,.slice qo x.queue.length qc])):
 DL w rb sb lb L CM h m ⟨s.globals,s.chans ++ [x],s.procs,s.last,s.alone,s.claim⟩ ⟨hs.go,hs.gc,co',cc',hs.po,hs.pc⟩ r (W3.setCell ⟨sb,1,none⟩ (.slice co' (s.chans.length+1) cc')):=by
 have hA:=k.below (ball ob');have hq':=hq.alloc ob';have h1:=k.l1;have h2:=k.l2;have hxl:=k.x.lt;have hlow:Below (rb+1) (W.alloc ob') W3:=(Below.refl _ _).grown hg (by simp;omega) (fun p hp=>(hq'.lt p hp).1);have hs3:W3.heap[sb]? =some (.cells (sCells hs s) 34 (0,0)):=(hg.block sb (lt_of_block hA.s) (fun e=>owns_neObj hq' hA.s (by simp) e.symm)).trans hA.s;have hgr3:=hA.gr.kept hg (owns_ne hA.gr hq' (by simp));have hpr3:=hA.pr.grow hq' hg (by simp) (by simp);have hcr3:CR (rb+1) W3 co' cc' (s.chans ++ [x]):=CR.step hq' (fun i hi=>by
  obtain ⟨a1,a2,a3,a4,a5⟩:=hqm i hi;exact ⟨a1,a2,a3,a4,a5.below (ball ob')⟩) (hx.below (ball ob')) hg hr
 have hset:=gb_set W3 sb 1 (.slice co' (s.chans.length+1) cc');have ho3:=(hlow.block _ (by omega)).trans hA.o;refine ⟨(hA.mx.low hlow (by omega)).gb hset (by omega) (lt_of_block hs3),gb_heap hset ho3 (by omega),(hA.x.low hlow).other hset h2,owns_set hgr3 _ _ (owns_neObj hgr3 hs3 (by simp)),hcr3.set hs3 _ _,hpr3.set hs3 _ _, ?_,h1,h2⟩;refine (heap_setCell_same _ _ _ _ _ _ hs3).trans ?_;simp [sCells]
theorem DL.pstep {xs:List Value} {x:ProcessD} {fo:Option Addr} {fc:Nat} {po':Option Addr} {pc':Nat} (k:DL w rb sb lb L CM h m s hs r W) (hq:W.ownsRow (rb+1) 39 4 (.slice hs.po s.procs.length hs.pc) s.procs.length xs)
 (hqm:∀i (hi:i < s.procs.length),xs[i*4]? =some (.int .i64 s.procs[i].type)∧xs[i*4+1]? =some (.int .i64 s.procs[i].loc)∧xs[i*4+2]? =some (.int .i64 s.procs[i].prio)∧
   ∃fo fc,xs[i*4+3]? =some (.slice fo s.procs[i].frame.length fc)∧W.ownsRow (rb+1) 2 1 (.slice fo s.procs[i].frame.length fc) s.procs[i].frame.length (intsV s.procs[i].frame))
 (hx:W.ownsRow (rb+1) 2 1 (.slice fo x.frame.length fc) x.frame.length (intsV x.frame))
 (hg: (W.alloc ob').grownBy W3 (Value.slice hs.po s.procs.length hs.pc).ownBlock) (hr:W3.ownsRow (rb+1) 39 4 (.slice po' (s.procs.length+1) pc') (s.procs.length+1) (xs ++ [.int .i64 x.type,.int .i64 x.loc,.int .i64 x.prio,.slice fo x.frame.length fc])):
 DL w rb sb lb L CM h m ⟨s.globals,s.chans,s.procs ++ [x],s.last,s.alone,s.claim⟩ ⟨hs.go,hs.gc,hs.co,hs.cc,po',pc'⟩ r (W3.setCell ⟨sb,2,none⟩ (.slice po' (s.procs.length+1) pc')):=by
 have hA:=k.below (ball ob');have hq':=hq.alloc ob';have h1:=k.l1;have h2:=k.l2;have hxl:=k.x.lt;have hlow:Below (rb+1) (W.alloc ob') W3:=(Below.refl _ _).grown hg (by simp;omega) (fun p hp=>(hq'.lt p hp).1);have hs3:W3.heap[sb]? =some (.cells (sCells hs s) 34 (0,0)):=(hg.block sb (lt_of_block hA.s) (fun e=>owns_neObj hq' hA.s (by simp) e.symm)).trans hA.s;have hgr3:=hA.gr.kept hg (owns_ne hA.gr hq' (by simp));have hcr3:=hA.cr.grow hq' hg (by simp) (by simp) (by simp);have hpr3:PRr (rb+1) W3 po' pc' (s.procs ++ [x]):=PRr.step hq' (fun i hi=>by
  obtain ⟨a1,a2,a3,a4,a5,a6,a7⟩:=hqm i hi;exact ⟨a1,a2,a3,a4,a5,a6,a7.alloc ob'⟩) (hx.alloc ob') hg hr
 have hset:=gb_set W3 sb 2 (.slice po' (s.procs.length+1) pc');have ho3:=(hlow.block _ (by omega)).trans hA.o;refine ⟨(hA.mx.low hlow (by omega)).gb hset (by omega) (lt_of_block hs3),gb_heap hset ho3 (by omega),(hA.x.low hlow).other hset h2,owns_set hgr3 _ _ (owns_neObj hgr3 hs3 (by simp)),hcr3.set hs3 _ _,hpr3.set hs3 _ _, ?_,h1,h2⟩;refine (heap_setCell_same _ _ _ _ _ _ hs3).trans ?_;simp [sCells]
structure KL (Wc:World) (rb lb:Nat) (L:List Int) (cb:Nat) (sh:Int) (q:List (List Int)) (r:RdS) (qo:Option Addr) (qc:Nat) (W:World):Prop where
 c:W.heap[cb]? =some (.cells #[.int .i64 sh,.slice qo q.length qc] 66 (0,0))
 q:QR (cb+1) W qo qc q
 x:RY rb lb L r W
 g:Wc.grownBy W (some rb)
 e:Wc.heap.size=cb
 l:rb < cb
variable {cb:Nat} {sh:Int} {q:List (List Int)} {qo:Option Addr} {qc:Nat}
theorem KL.below (k:KL Wc rb lb L cb sh q r qo qc W) (hb:Below W.heap.size W W1):KL Wc rb lb L cb sh q r qo qc W1:=
 ⟨(hb.block _ (lt_of_block k.c)).trans k.c,k.q.below hb,k.x.below hb,gb_trans k.g (gb_below hb),k.e,k.l⟩
theorem KL.read (k:KL Wc rb lb L cb sh q r qo qc W) (hx:RY rb lb L r1 W1) (hg:W.grownBy W1 (some rb)):KL Wc rb lb L cb sh q r1 qo qc W1:=
 have h1:=k.l
 ⟨gb_heap hg k.c (by omega),k.q.gb hg (by omega),hx,gb_trans k.g hg,k.e,k.l⟩
theorem KL.step {l:List Int} {lo:Option Addr} {lc:Nat} {ys:List Value} {qo':Option Addr} {qc':Nat} (k:KL Wc rb lb L cb sh q r qo qc W)
 (hq:W.ownsRow (cb+1) 76 1 (.slice qo q.length qc) q.length ys) (hqm:∀j (hj:j < q.length),∃o2 c2,ys[j]? =some (.slice o2 q[j].length c2)∧W.ownsRow (cb+1) 2 1 (.slice o2 q[j].length c2) q[j].length (intsV q[j]))
 (hl:W.ownsRow (cb+1) 2 1 (.slice lo l.length lc) l.length (intsV l)) (hg: (W.alloc ob').grownBy W3 (Value.slice qo q.length qc).ownBlock)
 (hr:W3.ownsRow (cb+1) 76 1 (.slice qo' (q.length+1) qc') (q.length+1) (ys ++ [.slice lo l.length lc])):
 KL Wc rb lb L cb sh (q ++ [l]) r qo' qc' (W3.setCell ⟨cb,1,none⟩ (.slice qo' (q.length+1) qc')):=by
 have hA:=k.below (ball ob');have hq':=hq.alloc ob';have h1:=k.l;have hcl:=lt_of_block k.c;have hlow:Below (cb+1) (W.alloc ob') W3:=(Below.refl _ _).grown hg (by simp;omega) (fun p hp=>(hq'.lt p hp).1);have hc3:=(hlow.block cb (by omega)).trans hA.c;have hlen:ys.length=q.length:=by have:=hq.1;omega
 have hgs3:Wc.grownBy W3 (some rb):=by
  have hg2:=hA.g;have he:=k.e;exact ⟨hlow.os.trans hg2.os,hlow.tape.trans hg2.tape,hlow.output.trans hg2.output,Nat.le_trans hg2.size hlow.size,fun p hp hne=>(hlow.block p (by omega)).trans (hg2.block p hp hne)⟩
 have hgset:W3.grownBy (W3.setCell ⟨cb,1,none⟩ (.slice qo' (q.length+1) qc')) (some cb):=gb_set _ _ _ _;have hl3:=(hl.alloc ob').kept hg (owns_ne (hl.alloc ob') hq' (by simp));refine ⟨?_,⟨ys ++ [.slice lo l.length lc], ?_,fun j hj=> ?_⟩,(hA.x.low (hlow.mono (by omega))).other hgset h1,gb_mono hgs3 hgset (by have:=k.e;omega),k.e,k.l⟩
 · rw [List.length_append,List.length_singleton];exact (heap_setCell_same _ _ _ _ _ _ hc3).trans rfl
 · rw [List.length_append,List.length_singleton];exact owns_set hr _ _ (owns_neObj hr hc3 (by simp))
 · rw [List.length_append,List.length_singleton] at hj;by_cases e:j < q.length
   · obtain ⟨o2,c2,h5,h6⟩:=hqm j e;have e1: (q ++ [l])[j]=q[j]:=List.getElem_append_left e;rw [e1];have h7:=(h6.alloc ob').kept hg (owns_ne (h6.alloc ob') hq' (by simp));exact ⟨o2,c2,by rw [List.getElem?_append_left (by omega)];exact h5,owns_set h7 _ _ (owns_neObj h7 hc3 (by simp))⟩
   · obtain rfl:j=q.length:=by omega
     have e1: (q ++ [l])[q.length]=l:=by simp
     rw [e1];exact ⟨lo,lc,by rw [List.getElem?_append_right (by omega),hlen];simp,owns_set hl3 _ _ (owns_neObj hl3 hc3 (by simp))⟩
structure JL (Wc:World) (rb lb:Nat) (L:List Int) (cb:Nat) (pv:Array Value) (r:RdS) (W:World):Prop where
 c:W.heap[cb]? =some (.cells pv 39 (0,0))
 x:RY rb lb L r W
 g:Wc.grownBy W (some rb)
 e:Wc.heap.size=cb
 l:rb < cb
variable {pv:Array Value}
theorem JL.below (k:JL Wc rb lb L cb pv r W) (hb:Below W.heap.size W W1):JL Wc rb lb L cb pv r W1:=
 ⟨(hb.block _ (lt_of_block k.c)).trans k.c,k.x.below hb,gb_trans k.g (gb_below hb),k.e,k.l⟩
theorem JL.read (k:JL Wc rb lb L cb pv r W) (hx:RY rb lb L r1 W1) (hg:W.grownBy W1 (some rb)):JL Wc rb lb L cb pv r1 W1:=
 ⟨gb_heap hg k.c (by have:=k.l;omega),hx,gb_trans k.g hg,k.e,k.l⟩
theorem JL.set (k:JL Wc rb lb L cb pv r W) (i:Nat) (v:Value):JL Wc rb lb L cb (pv.setIfInBounds i v) r (W.setCell ⟨cb,i,none⟩ v):=
 have hg:=gb_set W cb i v
 ⟨heap_setCell_same _ _ _ _ _ _ k.c,k.x.other hg k.l,gb_mono k.g hg (by have:=k.e;omega),k.e,k.l⟩
theorem JL.cell (k:JL Wc rb lb L cb pv r W) {i:Nat} {v:Value} (hv:pv[i]? =some v):W.cell? ⟨cb,i,none⟩=some v:=(cell_of_row _ _ _ _ _ _ k.c).trans hv
end
end Go.Proofs.YtnoibjahliafpaaGreatDoor
