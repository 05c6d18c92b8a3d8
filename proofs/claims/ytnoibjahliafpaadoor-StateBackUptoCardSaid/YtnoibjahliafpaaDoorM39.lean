/- Layer 12's example holds. -/
import Derived.Test.YtnoibjahliafpaaDoorM38
import Derived.Deep.CutBlock
import Derived.Test.YtnoibjahliafpaaDoorM32
import Derived.Test.YtnoibjahliafpaaDoorCards
import Derived.Test.YtnoibjahliafpaaDoorTie
import Derived.Deep.DeepHandedRow
import Derived.Deep.DeepWitnessRowRef
import Derived.Lib.LaidIn
import Derived.Stop.LaidErr
import Derived.Lib.LaidTab
import Derived.Shelf.Vars
import Derived.LaidLaws
import Derived.Lib.SmallJoins
import Derived.Test.YtnoibjahliafpaaDoorRows
set_option linter.unusedVariables false
set_option linter.unusedSimpArgs false
namespace Go.Proofs.YtnoibjahliafpaaDoor
open Go.ChangeShapes Go.WideShapes Go.ChangeAt Go.RowKit
structure Stb (T b:Nat) (h:SH) (s:StateD) (W:World):Prop where
 box:W.heap[T]? =some (.cells (sCells h s) 33 (0,0))
 le:b≤W.heap.size
 sd:SD b W h s
theorem Stb.below {W W':World} {T b:Nat} {h:SH} {s:StateD} (k:Stb T b h s W) (hb:Below W.heap.size W W'):Stb T b h s W':=⟨(hb.block _ (lt_of_block k.box)).trans k.box,Nat.le_trans k.le hb.size,k.sd.below (hb.mono k.le)⟩
theorem Stb.new {W:World} {h:SH} {s:StateD} (k:SD W.heap.size W h s):Stb W.heap.size W.heap.size h s (W.alloc (.cells (sCells h s) 33)):=⟨heap_alloc_new W _,by simp,k.below (ball _)⟩
theorem Stb.here {W:World} {T b:Nat} {h:SH} {s:StateD} (k:Stb T b h s W):SD W.heap.size W h s:=k.sd.lift k.le
theorem st_info (h:SH) (s:StateD): (Tryd.prog.info? 33).map (·.size)=some (sCells h s).size:=by
 show _=some 6;kernel_rfl
theorem two_lens:Lens twoS:=⟨by decide,by decide,by decide,fun x hx=>(by cases hx),fun x hx=>by
 simp only [twoS,List.mem_cons,List.not_mem_nil,or_false,or_self] at hx;subst hx;decide⟩
theorem keepS {W0 W W1:World} (h:Below W0.heap.size W0 W) (hb:Below W.heap.size W W1):Below W0.heap.size W0 W1:=h.trans (hb.mono h.size)
theorem new_kept {W W1:World} {cs:Array Value} {T:TypeId} (hb:Below (W.alloc (.cells cs T)).heap.size (W.alloc (.cells cs T)) W1):W1.heap[W.heap.size]? =some (.cells cs T (0,0)):=(hb.block _ (by simp)).trans (heap_alloc_new _ _)
theorem new_keptD {W W1:World} {cs:Array Value} {T:TypeId} (hb:Below (W.alloc (.cells cs T)).drew.heap.size (W.alloc (.cells cs T)).drew W1):W1.heap[W.heap.size]? =some (.cells cs T (0,0)):=(hb.block _ (by show _ < (W.alloc (.cells cs T)).heap.size;simp)).trans (heap_alloc_new W _)
theorem sixS {w W:World} {B b:Nat} (h:Below B w W) (hb:B≤b) (v0 v1 v2 v3 v4 v5:Value):Below B w ((((((W.setCell ⟨b,0,none⟩ v0).setCell ⟨b,1,none⟩ v1).setCell ⟨b,2,none⟩ v2).setCell ⟨b,3,none⟩ v3).setCell ⟨b,4,none⟩ v4).setCell ⟨b,5,none⟩ v5):=
 (((((h.setCell hb _).setCell hb _).setCell hb _).setCell hb _).setCell hb _).setCell hb _
theorem two_s1: (Value.string ((⟨#[48]⟩:ByteArray) ++ (⟨twoT.toArray⟩:ByteArray)))= .string ⟨(48 :: twoT).toArray⟩:=by
 rw [str_add];rfl
theorem two_s3: (⟨twoT.toArray⟩:ByteArray).extract 0 21= ⟨(twoT.take 21).toArray⟩:=rfl
set_option maxRecDepth 100000 in
set_option maxHeartbeats 8000000 in
theorem shownC (w:World) (ht:TabW w):Calls Tryd.prog 4 #[] w fun e w'=>e= .returned (.bool true)∧Below w.heap.size w w':=by
 have HT:=Lib.hid ht;clear ht;go_enter Tryd.func4,Tryd.ntmps4;go_wp2_with fail;refine (twoC _).mono ?_;rintro e W1 ⟨h1,rfl,hmd1,hb1⟩;have HM1:=Lib.hid hmd1;have HB1:=Lib.hid hb1;clear hmd1 hb1;go_wp2_with fail;refine (firstC W1 (Nat.le_refl _) HM1.out).mono ?_;rintro e W2 hfp;obtain ⟨hs,rfl,hso,hb2⟩:=hfp.2 two_good;have HB2:Hid (Below w.heap.size w W2):=Lib.hid (HB1.out.trans (hb2.mono HB1.out.size));obtain ⟨s,hss⟩:∃s,firstD twoD=s:=⟨_,rfl⟩;have HSS:Hid (s=twoS):=Lib.hid (hss.symm.trans two_first);rw [hss] at hso ⊢;have HS2:Hid (Stb W2.heap.size W2.heap.size hs s (W2.alloc (.cells (sCells hs s) 33))):=Lib.hid (Stb.new (hso.sd (HSS.out ▸ two_lens)));have HB3:Hid (Below w.heap.size w (W2.alloc (.cells (sCells hs s) 33))):=Lib.hid (HB2.out.trans ((ball _).mono HB2.out.size));clear hfp hso hss hb2 HM1 HB1;unfold sCells at HS2 HB3;unfold sV sCells;go_upto_region 2 with fail
 obtain ⟨T,hT⟩:∃T,W2.heap.size=T:=⟨_,rfl⟩;rw [hT] at HS2
 try rw [hT]
 clear hT HB2;generalize W2.alloc (.cells #[.slice hs.go s.globals.length hs.gc,.slice hs.co s.chans.length hs.cc,.slice hs.po s.procs.length hs.pc,.int .i64 s.last,.int .i64 s.alone,.int .i64 s.claim] 33)=W3 at HS2 HB3 ⊢;have HTX:Hid (encT twoD s=twoT∧stateE twoD s=0):=Lib.hid (by rw [HSS.out];exact ⟨two_T,two_E⟩)
 go_cut [3,4] from 18 to 22 (fun v3 v4 W'=>v3= .string ⟨twoT.toArray⟩∧v4= .int .i64 0∧Below W3.heap.size W3 W')
 case first=>
  have z0:∀W,Below W3.heap.size W3 W→W.cell? ⟨T,0,none⟩=some (.slice hs.go s.globals.length hs.gc):=fun W hb=>(cell_of_row _ _ 0 _ _ _ (HS2.out.below hb).box).trans rfl
  have z1:∀W,Below W3.heap.size W3 W→W.cell? ⟨T,1,none⟩=some (.slice hs.co s.chans.length hs.cc):=fun W hb=>(cell_of_row _ _ 1 _ _ _ (HS2.out.below hb).box).trans rfl
  have z2:∀W,Below W3.heap.size W3 W→W.cell? ⟨T,2,none⟩=some (.slice hs.po s.procs.length hs.pc):=fun W hb=>(cell_of_row _ _ 2 _ _ _ (HS2.out.below hb).box).trans rfl
  have z3:∀W,Below W3.heap.size W3 W→W.cell? ⟨T,3,none⟩=some (.int .i64 s.last):=fun W hb=>(cell_of_row _ _ 3 _ _ _ (HS2.out.below hb).box).trans rfl
  have z4:∀W,Below W3.heap.size W3 W→W.cell? ⟨T,4,none⟩=some (.int .i64 s.alone):=fun W hb=>(cell_of_row _ _ 4 _ _ _ (HS2.out.below hb).box).trans rfl
  have z5:∀W,Below W3.heap.size W3 W→W.cell? ⟨T,5,none⟩=some (.int .i64 s.claim):=fun W hb=>(cell_of_row _ _ 5 _ _ _ (HS2.out.below hb).box).trans rfl
  have hD:Below W3.heap.size W3 W3.drew:=(Below.refl _ _).drew
  go_region_law
   (first
     | (go_simp;go_at_call 9;refine (twoC _).mono ?_;rintro e W4 ⟨h4,rfl,hmd4,hb4⟩;have hB4:Below W3.heap.size W3 W4:=hD.trans (hb4.mono hD.size);have HM4:=Lib.hid hmd4;clear hmd4 hb4)
     | (go_simp;go_at_call 5;refine (encodeC W4 HM4.out (HS2.out.below hB4).here (HT.out.below (HB3.out.trans (hB4.mono HB3.out.size)))).mono ?_;rintro e W5 ⟨rfl,hb5⟩;rw [HTX.out.1,HTX.out.2];have hB5:Below W3.heap.size W3 W5:=hB4.trans (hb5.mono hB4.size);clear hb5))
  all_goals (
   try simp only [Exit.inBlock,Exit.then]
   go_wp2_with fail;go_meet;exact ⟨rfl,rfl,hB5⟩)
 case rest=>
 obtain ⟨rfl,rfl,hbc⟩:=hcut;have HS4:=Lib.hid (HS2.out.below hbc);have HB4:=Lib.hid (HB3.out.trans (hbc.mono HB3.out.size));clear hbc HS2 HB3 HTX;go_wp2_with fail;refine (twoC _).mono ?_;rintro e W5 ⟨h5,rfl,hmd5,hb5⟩;have HM5:=Lib.hid hmd5;have HS5:=Lib.hid (HS4.out.below hb5);have HB5:=Lib.hid (HB4.out.trans (hb5.mono HB4.out.size));clear hmd5 hb5 HS4 HB4;go_wp2_with fail;refine (decodeC twoT W5 HM5.out (by decide) (HT.out.below HB5.out)).mono ?_;rintro e W6 ⟨hu,rfl,hsd6,hb6⟩;obtain ⟨u,huu⟩:∃u,decS twoD twoT=u:=⟨_,rfl⟩;have HUU:Hid (u=twoS):=Lib.hid (huu.symm.trans two_dS);rw [huu] at hsd6;rw [huu,two_dE];have HU6:Hid (Stb W6.heap.size W6.heap.size hu u (W6.alloc (.cells (sCells hu u) 33))):=Lib.hid (Stb.new hsd6);have HS6:Hid (Stb T T hs s (W6.alloc (.cells (sCells hu u) 33))):=Lib.hid ((HS5.out.below hb6).below (ball _));have HB6:Hid (Below w.heap.size w (W6.alloc (.cells (sCells hu u) 33))):=Lib.hid ((HB5.out.trans (hb6.mono HB5.out.size)).trans ((ball _).mono (HB5.out.trans (hb6.mono HB5.out.size)).size));clear hsd6 hb6 huu HS5 HB5 HM5;unfold sCells at HU6;unfold sCells at HS6 HB6;unfold sV sCells;go_upto_region 4 with fail
 obtain ⟨T1,hT1⟩:∃T,W6.heap.size=T:=⟨_,rfl⟩;rw [hT1] at HU6
 try rw [hT1]
 clear hT1;generalize W6.alloc (.cells #[.slice hu.go u.globals.length hu.gc,.slice hu.co u.chans.length hu.cc,.slice hu.po u.procs.length hu.pc,.int .i64 u.last,.int .i64 u.alone,.int .i64 u.claim] 33)=W7 at HS6 HU6 HB6 ⊢;go_wp2_with fail;refine (twoC _).mono ?_;rintro e W8 ⟨h8,rfl,hmd8,hb8⟩;have HM8:=Lib.hid hmd8;have HS8:=Lib.hid (HS6.out.below hb8);have HU8:=Lib.hid (HU6.out.below hb8);have HB8:=Lib.hid (HB6.out.trans (hb8.mono HB6.out.size));clear hmd8 hb8 HS6 HU6 HB6;go_wp2_with fail;rw [two_s1];refine (decodeC (48 :: twoT) W8 HM8.out (by decide) (HT.out.below HB8.out)).mono ?_;rintro e W9 ⟨hx,rfl,-,hb9⟩;obtain ⟨x,hxx⟩:∃u,decS twoD (48 :: twoT)=u:=⟨_,rfl⟩;rw [hxx,two_h];have HS9:Hid (Stb T T hs s (W9.alloc (.cells (sCells hx x) 33))):=Lib.hid ((HS8.out.below hb9).below (ball _));have HU9:Hid (Stb T1 T1 hu u (W9.alloc (.cells (sCells hx x) 33))):=Lib.hid ((HU8.out.below hb9).below (ball _));have HB9:Hid (Below w.heap.size w (W9.alloc (.cells (sCells hx x) 33))):=Lib.hid ((HB8.out.trans (hb9.mono HB8.out.size)).trans ((ball _).mono (HB8.out.trans (hb9.mono HB8.out.size)).size));clear hb9 hxx HS8 HU8 HB8 HM8;unfold sCells at HS9 HU9 HB9;unfold sV sCells;go_upto_region 5 with fail
 generalize W9.alloc (.cells #[.slice hx.go x.globals.length hx.gc,.slice hx.co x.chans.length hx.cc,.slice hx.po x.procs.length hx.pc,.int .i64 x.last,.int .i64 x.alone,.int .i64 x.claim] 33)=W10 at HS9 HU9 HB9 ⊢
 go_cut [10] from 37 to 46 (fun v10 W'=>v10= .int .i64 41∧Below W10.heap.size W10 W')
 case first=>
  have HT10:Hid (∀W,Below W10.heap.size W10 W→TabW W):=Lib.hid fun W hb=>HT.out.below (HB9.out.trans (hb.mono HB9.out.size))
  have l0:twoT.length=22:=rfl;have l1:IntKind.i64.wrap 21=21:=by decide
  have l2: (max 21 0:Int)=21:=by decide
  go_region_held3 (fun W=>Below W10.heap.size W10 W)
   (first | with_reducible assumption | with_reducible exact (Below.refl _ _).drew | with_reducible exact Below.alloc (by with_reducible assumption) (Below.size (by with_reducible assumption)) _ | with_reducible exact Below.drew (Below.alloc (Below.refl _ _) (Nat.le_refl _) _) | (with_reducible refine sixS (by with_reducible assumption) ?_ _ _ _ _ _ _;first | exact Nat.le_refl _ | exact Below.size (by with_reducible assumption)))
   (first
     | (go_simp;go_at_call 9;refine (twoC _).mono ?_;rintro e W11 ⟨h11,rfl,hmd11,hb11⟩;have hB11:Below W10.heap.size W10 W11:=keepS (by assumption) hb11;have HM11:=Lib.hid hmd11
        try (have hz11:=(by with_reducible exact new_kept hb11))
        try (have hz11:=(by with_reducible exact new_keptD hb11))
        clear hmd11 hb11)
     | (go_simp;go_at_call 6;rw [show (⟨twoT.toArray⟩:ByteArray).extract 0 _= ⟨(twoT.take 21).toArray⟩ from two_s3];refine (decodeC (twoT.take 21) _ (by first | with_reducible exact HM11.out | exact (HM11.out.below (ball _)).lift (by simp)) (by decide) (HT10.out _ (by assumption))).mono ?_;rintro e W12 ⟨hy,rfl,-,hb12⟩;have hB12:Below W10.heap.size W10 W12:=keepS (by assumption) hb12;rw [two_i];obtain ⟨y,hyy⟩:∃u,decS twoD (twoT.take 21)=u:=⟨_,rfl⟩;rw [hyy]
        try (have hz12:=(hb12.block _ (lt_of_block hz11)).trans hz11)
        try (have hz12:=(by with_reducible exact new_kept hb12))
        try (have hz12:=(by with_reducible exact new_keptD hb12))
        try (
         have q0:=(cell_of_row _ _ 0 _ _ _ hz12).trans rfl;have q1:=(cell_of_row _ _ 1 _ _ _ hz12).trans rfl;have q2:=(cell_of_row _ _ 2 _ _ _ hz12).trans rfl;have q3:=(cell_of_row _ _ 3 _ _ _ hz12).trans rfl;have q4:=(cell_of_row _ _ 4 _ _ _ hz12).trans rfl;have q5:=(cell_of_row _ _ 5 _ _ _ hz12).trans rfl;have t0:=frozen_of_row _ _ 0 _ _ hz12;have t1:=frozen_of_row _ _ 1 _ _ hz12;have t2:=frozen_of_row _ _ 2 _ _ hz12;have t3:=frozen_of_row _ _ 3 _ _ hz12;have t4:=frozen_of_row _ _ 4 _ _ hz12;have t5:=frozen_of_row _ _ 5 _ _ hz12)
        clear hyy hb12;unfold sV sCells))
  all_goals (
   try simp only [Exit.inBlock,Exit.then]
   go_wp2_with fail;go_meet;exact ⟨rfl,by assumption⟩)
 case rest=>
 obtain ⟨rfl,hbc⟩:=hcut;have HS11:=Lib.hid (HS9.out.below hbc);have HU11:=Lib.hid (HU9.out.below hbc);have HB11:=Lib.hid (HB9.out.trans (hbc.mono HB9.out.size));clear hbc HS9 HU9 HB9;have HSM:=Lib.hid (sameC s u hs hu wc (Nat.le_refl _) HS11.out.here HU11.out.here);rw [sameB_yes (HSS.out.trans HUU.out.symm)] at HSM;unfold sV sCells at HSM;go_wp2_with (first | (refine wpList_load_row rfl _ _ rfl T rfl _ (sCells hs s) _ _ HS11.out.box Tryd.underlying33 rfl (st_info _ _) ?_) | (refine wpList_load_row rfl _ _ rfl T1 rfl _ (sCells hu u) _ _ HU11.out.box Tryd.underlying33 rfl (st_info _ _) ?_));refine HSM.out.mono ?_;rintro e W13 ⟨rfl,hb13⟩;have HB13:=Lib.hid (HB11.out.trans (hb13.mono HB11.out.size));clear hb13 HS11 HU11 HB11 HSM;go_wp2_with fail;go_ret;exact ⟨rfl,HB13.out⟩
end Go.Proofs.YtnoibjahliafpaaDoor
namespace Go.Proofs.YtnoibjahliafpaaDoor
open Go.ChangeShapes Go.WideShapes Go.ChangeAt Go.RowKit
theorem own:ownKnob Tryd.prog.godebug=none:=by kernel_rfl
theorem laidOut:laidOutB Tryd.prog=true:=by kernel_rfl
theorem star: "*" ++ "errors.errorString"= "*errors.errorString":=by decide
theorem rowErr (u:TypeId) (h:Tryd.prog.typeName? 3 u=some "*errors.errorString"):u=173:=
 typeName_ptr_named (nm:= "errors.errorString") (by rw [star];kernel_rfl) (by kernel_rfl) (by decide) u (by rw [star];exact h)
abbrev laidL:List (String × DataW Unit):=[("math/bits.deBruijn32tab",Rows.laid_math_bits_deBruijn32tab),("math/bits.deBruijn64tab",Rows.laid_math_bits_deBruijn64tab),("internal/strconv.uint64pow10",Rows.laid_internal_strconv_uint64pow10),("strconv.ErrRange",Rows.laid_strconv_ErrRange),("strconv.ErrSyntax",Rows.laid_strconv_ErrSyntax)]
theorem tab_of (W:World) (hL:laidMet Tryd.prog laidL W):TabW W:=by
 have htab:Lib.TabIs Tryd.prog W "internal/strconv.uint64pow10" .u64 Lib.pow10Tab:=
  Lib.tabIs_of_head (g:=2) (t:=166) (e:=113) (n:=20) (by kernel_rfl) (by kernel_rfl) Tryd.underlying166 Tryd.underlying113 (by kernel_rfl) (by kernel_rfl) hL.tail.tail
 obtain ⟨a4,t4,hv4,_,_,_⟩:=laid_sentinel (g:=1) (tp:=173) (te:=175) (ts:=9) hL.tail.tail.tail (by kernel_rfl) (by kernel_rfl) Tryd.underlying88 rowErr Tryd.underlying173 Tryd.underlying175 rfl rfl Tryd.underlying9 (by kernel_rfl) (by kernel_rfl);obtain ⟨a5,t5,hv5,_,_,_⟩:=laid_sentinel (g:=0) (tp:=173) (te:=175) (ts:=9) hL.tail.tail.tail.tail (by kernel_rfl) (by kernel_rfl) Tryd.underlying88 rowErr Tryd.underlying173 Tryd.underlying175 rfl rfl Tryd.underlying9 (by kernel_rfl) (by kernel_rfl);have c2:W.cell? ⟨1,0,none⟩=some (.iface 173 (.pointer (some a4))):=World.var?_cell (by kernel_rfl) hv4 0;have c1:W.cell? ⟨0,0,none⟩=some (.iface 173 (.pointer (some a5))):=World.var?_cell (by kernel_rfl) hv5 0;intro w' hb;exact ⟨Joins.tab_stays (g:=2) (by kernel_rfl) htab hb (Nat.le_refl _),⟨_,_,(hb.cell (World.block_lt_of_cell? W _ c1)).trans c1⟩,⟨_,_,(hb.cell (World.block_lt_of_cell? W _ c2)).trans c2⟩⟩
def lit1:DataW Unit→Value
 | .lit (.int k z)=> .int k z
 | _=>undef
def row1:DataW Unit→List Value
 | .agg l=>l.map lit1
 | _=>[]
noncomputable def laidWorld (os:Os):World:=
 let N:=(World.settled Tryd.prog os).heap.size
 let w0:=World.holding Tryd.prog os ⟨#[.cells #[.string ⟨#[105,110,118,97,108,105,100,32,115,121,110,116,97,120]⟩] 175,.cells #[.string ⟨#[118,97,108,117,101,32,111,117,116,32,111,102,32,114,97,110,103,101]⟩] 175],#[],[]⟩
 let put (h:Array Obj) (g:Nat) (cs:Array Value):Array Obj:=h.modify g fun
  | .cells _ t frozen=> .cells cs t frozen
  | o=>o
 let h1:=put w0.heap 0 #[.iface 173 (.pointer (some ⟨N,0,none⟩))]
 let h2:=put h1 1 #[.iface 173 (.pointer (some ⟨N+1,0,none⟩))]
 let h3:=put h2 2 (row1 Rows.laid_internal_strconv_uint64pow10).toArray
 let h6:=put h3 3 (row1 Rows.laid_math_bits_deBruijn32tab).toArray
 let h7:=put h6 4 (row1 Rows.laid_math_bits_deBruijn64tab).toArray
 { w0 with heap:=h7 }
noncomputable abbrev N0:Nat:=(World.settled Tryd.prog default).heap.size
end Go.Proofs.YtnoibjahliafpaaDoor
namespace Go.Proofs.YtnoibjahliafpaaDoor.bulks
theorem part_le {H:Type} {d:DataW H} {l:List (DataW H)} (h:d ∈ l):Rows.uptoBulk d≤Rows.uptoBulkAll l:=by
 induction l with
 | nil=>cases h
 | cons x r ih=>
   simp only [Rows.uptoBulkAll];cases List.mem_cons.1 h with
   | inl e=>subst e;omega
   | inr e=>have:=ih e;omega
theorem string_le {H:Type} (bytes:List UInt8):bytes.length≤Rows.uptoBulk (DataW.lit (H:=H) (.string bytes)):=by
 simp [Rows.uptoBulk]
theorem bound {H:Type} {l:List (DataW H)} (hk:Rows.uptoSmall H l=true):Rows.uptoBulkAll l≤1048576:=of_decide_eq_true hk
end Go.Proofs.YtnoibjahliafpaaDoor.bulks
