/- What the bound on the arguments gives. -/
import Derived.Test.YtnoibjahliafpaaGreatDoorRows
import Derived.Test.YtnoibjahliafpaaGreatDoorM46
import Derived.Test.YtnoibjahliafpaaGreatDoorM35
import Derived.Test.YtnoibjahliafpaaGreatDoorM48
import Derived.Test.YtnoibjahliafpaaGreatDoorM39
set_option linter.unusedVariables false
set_option linter.unusedSimpArgs false
namespace Go.Proofs.YtnoibjahliafpaaGreatDoor.bulks
theorem part_le {H:Type} {d:DataW H} {l:List (DataW H)} (h:d ∈ l):Rows.uptoBulk d≤Rows.uptoBulkAll l:=by
 induction l with
 | nil=>cases h
 | cons x r ih=>
   simp only [Rows.uptoBulkAll];cases List.mem_cons.1 h with
   | inl e=>subst e;omega
   | inr e=>have:=ih e;omega
theorem string_le {H:Type} (bytes:List UInt8):bytes.length≤Rows.uptoBulk (DataW.lit (H:=H) (.string bytes)):=by
 simp [Rows.uptoBulk]
theorem bound {H:Type} {l:List (DataW H)} (hk:Rows.uptoSmall H l=true):Rows.uptoBulkAll l≤1048576:=of_decide_eq_true hk
end Go.Proofs.YtnoibjahliafpaaGreatDoor.bulks
namespace Go.Proofs.YtnoibjahliafpaaGreatDoor
open Go.ChangeShapes Go.WideShapes Go.ChangeAt Go.RowKit
set_option maxRecDepth 100000 in
set_option maxHeartbeats 4000000 in
theorem textsWalk {h:MH} {m:ModelD} {hs:SH} {s:StateD} (b:List UInt8) (w:World) (hmd:MD w.heap.size w h m) (hsd:SD w.heap.size w hs s) (hab:ArgsB m) (hbl:b.length≤4294967281) (htw:TabW w):Calls Tryz.prog 5 #[mV h m,sV hs s,.string ⟨b.toArray⟩] w fun e w'=>e= .returned (.bool true)∧Below w.heap.size w w':=by
 have HX0:Hid (Mx w w.heap.size (mCells h m) h m ((w.alloc (.cells (mCells h m) 29)).alloc (.cells (sCells hs s) 34))):=Lib.hid ((Mx.new hmd rfl).below (ball _));have HS0:Hid (Stb (w.heap.size+1) w.heap.size hs s ((w.alloc (.cells (mCells h m) 29)).alloc (.cells (sCells hs s) 34))):=Lib.hid ⟨new_at (by simp),by simp;omega,(hsd.below (ball _)).below ((ball _).mono (by simp))⟩;have HTW:=Lib.hid htw;have HAB:=Lib.hid hab;clear hmd hsd hab htw;unfold mV sV;go_enter Tryz.func5,Tryz.ntmps5;go_upto_region 1 with fail
 obtain ⟨T1,hT1⟩:∃T,w.heap.size+1=T:=⟨_,rfl⟩;rw [hT1] at HS0 ⊢;clear hT1;generalize (w.alloc (.cells (mCells h m) 29)).alloc (.cells (sCells hs s) 34)=W0 at HX0 HS0 ⊢;go_wp2_with fail;refine (shownC W0 (HTW.out.below HX0.out.bx.bel)).mono ?_;rintro e W1 ⟨rfl,hb1⟩;have HX1:=Lib.hid (HX0.out.below hb1);have HS1:=Lib.hid (HS0.out.below hb1);clear hb1 HX0 HS0;obtain ⟨tx,htx⟩:∃x,encT m s=x:=⟨_,rfl⟩;obtain ⟨e0,he0⟩:∃x,stateE m s=x:=⟨_,rfl⟩;have HE:=Lib.hid (encodeC W1 HX1.out.here HS1.out.here (HTW.out.below HX1.out.bx.bel));rw [htx,he0] at HE;go_wp2_with (first | (refine wpList_load_row rfl _ _ rfl w.heap.size rfl _ (mCells h m) _ _ HX1.out.bx.box Tryz.underlying29 rfl HX1.out.info ?_) | (refine wpList_load_row rfl _ _ rfl T1 rfl _ (sCells hs s) _ _ HS1.out.box Tryz.underlying34 rfl (st_info _ _) ?_));refine HE.out.mono ?_;rintro e W2 ⟨rfl,hb⟩;have HX2:=Lib.hid (HX1.out.below hb);have HS2:=Lib.hid (HS1.out.below hb);clear hb HX1 HS1 HE;have HE:=Lib.hid (encode12H W2 HX2.out.here HS2.out.here HAB.out);rw [htx,he0] at HE;clear htx he0;go_wp2_with (first | (refine wpList_load_row rfl _ _ rfl w.heap.size rfl _ (mCells h m) _ _ HX2.out.bx.box Tryz.underlying29 rfl HX2.out.info ?_) | (refine wpList_load_row rfl _ _ rfl T1 rfl _ (sCells hs s) _ _ HS2.out.box Tryz.underlying34 rfl (st_info _ _) ?_));refine HE.out.mono ?_;rintro e W3 ⟨rfl,hb⟩;have HX3:=Lib.hid (HX2.out.below hb);clear hb HX2 HS2 HE;go_wp2_with (refine wpList_load_row rfl _ _ rfl w.heap.size rfl _ (mCells h m) _ _ HX3.out.bx.box Tryz.underlying29 rfl HX3.out.info ?_);refine (decodeC b W3 HX3.out.here hbl (HTW.out.below HX3.out.bx.bel)).mono ?_;rintro e W4 ⟨hx,rfl,hsd4,hb⟩;obtain ⟨x,hxx⟩:∃x,decS m b=x:=⟨_,rfl⟩;obtain ⟨g0,hg0⟩:∃x,decE m b=x:=⟨_,rfl⟩;have HXX:=Lib.hid (And.intro hxx hg0);rw [hxx] at hsd4;rw [hxx,hg0];have HX4:=Lib.hid ((HX3.out.below hb).below (ball (.cells (sCells hx x) 34)));have HA4:=Lib.hid (Stb.new hsd4);clear hb hsd4 hxx hg0 HX3;unfold sCells at HX4 HA4;unfold sV;have hun:sCells hx x= #[.slice hx.go x.globals.length hx.gc,.slice hx.co x.chans.length hx.cc,.slice hx.po x.procs.length hx.pc,.int .i64 x.last,.int .i64 x.alone,.int .i64 x.claim]:=rfl;rw [hun];clear hun;go_upto_region 5 with fail
 obtain ⟨T2,hT2⟩:∃T,W4.heap.size=T:=⟨_,rfl⟩;rw [hT2] at HA4
 try rw [hT2]
 clear hT2;generalize W4.alloc (.cells #[.slice hx.go x.globals.length hx.gc,.slice hx.co x.chans.length hx.cc,.slice hx.po x.procs.length hx.pc,.int .i64 x.last,.int .i64 x.alone,.int .i64 x.claim] 34)=W5 at HX4 HA4 ⊢;go_wp2_with (refine wpList_load_row rfl _ _ rfl w.heap.size rfl _ (mCells h m) _ _ HX4.out.bx.box Tryz.underlying29 rfl HX4.out.info ?_);refine (decode12H b W5 HX4.out.here hbl HAB.out).mono ?_;rintro e W6 ⟨hy,rfl,hsd6,hb⟩;rw [HXX.out.1] at hsd6;rw [HXX.out.1,HXX.out.2];have HX6:=Lib.hid ((HX4.out.below hb).below (ball (.cells (sCells hy x) 34)));have HA6:=Lib.hid ((HA4.out.below hb).below (ball (.cells (sCells hy x) 34)));have HC6:=Lib.hid (Stb.new hsd6);clear hb hsd6 HX4 HA4 HXX;unfold sCells at HX6 HA6 HC6;unfold sV;have hun:sCells hy x= #[.slice hy.go x.globals.length hy.gc,.slice hy.co x.chans.length hy.cc,.slice hy.po x.procs.length hy.pc,.int .i64 x.last,.int .i64 x.alone,.int .i64 x.claim]:=rfl;rw [hun];clear hun;go_upto_region 6 with fail
 obtain ⟨T3,hT3⟩:∃T,W6.heap.size=T:=⟨_,rfl⟩;rw [hT3] at HC6
 try rw [hT3]
 clear hT3;generalize W6.alloc (.cells #[.slice hy.go x.globals.length hy.gc,.slice hy.co x.chans.length hy.cc,.slice hy.po x.procs.length hy.pc,.int .i64 x.last,.int .i64 x.alone,.int .i64 x.claim] 34)=W7 at HX6 HA6 HC6 ⊢;have HSM:=Lib.hid (same12H x x hx hy W7 (Nat.le_refl _) HA6.out.here HC6.out.here);rw [sameB_yes rfl] at HSM;go_wp2_with (first | (refine wpList_load_row rfl _ _ rfl T2 rfl _ (sCells hx x) _ _ HA6.out.box Tryz.underlying34 rfl (st_info _ _) ?_) | (refine wpList_load_row rfl _ _ rfl T3 rfl _ (sCells hy x) _ _ HC6.out.box Tryz.underlying34 rfl (st_info _ _) ?_));refine HSM.out.mono ?_;rintro e W8 ⟨rfl,hb⟩;have HB8:=Lib.hid (HX6.out.bx.bel.trans (hb.mono HX6.out.bx.bel.size));have hq1: (e0 == e0)=true:=by simp
 have hq2: (g0 == g0)=true:=by simp
 clear hb HSM HX6 HA6 HC6;go_wp2_with fail;go_ret;exact ⟨rfl,HB8.out⟩
end Go.Proofs.YtnoibjahliafpaaGreatDoor
