/- exec.Go: every Env and way, by what its statement comes to. -/
import Derived.Test.YthfldokfnjpkmaaGreatDoorM47
import Derived.Test.YthfldokfnjpkmaaGreatDoorM45
import Derived.Test.YthfldokfnjpkmaaGreatDoorM43
set_option linter.unusedVariables false
set_option linter.unusedSimpArgs false
namespace Go.Proofs.YthfldokfnjpkmaaGreatDoor
open Go.ChangeShapes Go.WideShapes Go.ChangeAt Go.RowKit
def GoX (w:World) (E:EnvD) (x:WayD) (r:StateD × ByteArray × Int) (e:Ending) (w':World):Prop:=
 (execE E≠0→GoP w (zeroS,⟨#[]⟩,execE E) e w')∧ (execE E=0→ (x ∉ waysF E→GoP w (zeroS,⟨#[]⟩,42) e w')∧ (x ∈ waysF E→ (x.err≠0→GoP w (zeroS,⟨#[]⟩,x.err) e w')∧ (x.err=0→GoP w (goneR E x r) e w')))
theorem GoX.bad {w w':World} {E:EnvD} {x:WayD} {r:StateD × ByteArray × Int} {e:Ending} (h:execE E≠0) (k:GoP w (zeroS,⟨#[]⟩,execE E) e w'):GoX w E x r e w':=⟨fun _=>k,fun h0=>absurd h0 h⟩
theorem GoX.out {w w':World} {E:EnvD} {x:WayD} {r:StateD × ByteArray × Int} {e:Ending} (h:execE E=0) (hx:x ∉ waysF E) (k:GoP w (zeroS,⟨#[]⟩,42) e w'):GoX w E x r e w':=⟨fun h0=>absurd h h0,fun _=>⟨fun _=>k,fun h0=>absurd h0 hx⟩⟩
theorem GoX.err {w w':World} {E:EnvD} {x:WayD} {r:StateD × ByteArray × Int} {e:Ending} (h:execE E=0) (hx:x ∈ waysF E) (h2:x.err≠0) (k:GoP w (zeroS,⟨#[]⟩,x.err) e w'):GoX w E x r e w':=⟨fun h0=>absurd h h0,fun _=>⟨fun h0=>absurd hx h0,fun _=>⟨fun _=>k,fun h0=>absurd h0 h2⟩⟩⟩
theorem GoX.yes {w w':World} {E:EnvD} {x:WayD} {r:StateD × ByteArray × Int} {e:Ending} (h:execE E=0) (hx:x ∈ waysF E) (h2:x.err=0) (k:GoP w (goneR E x r) e w'):GoX w E x r e w':=⟨fun h0=>absurd h h0,fun _=>⟨fun h0=>absurd hx h0,fun _=>⟨fun h0=>absurd h2 h0,fun _=>k⟩⟩⟩
theorem GoP.zero {w W:World} {er:Int} {b:Nat} (hb:Below w.heap.size w W) (hl:w.heap.size≤b):GoP w (zeroS,⟨#[]⟩,er) (.returned (.tuple #[sV zeroH zeroS,.string ⟨#[]⟩,.int .i64 er])) (put6 W b 0 zeroH zeroS):=⟨zeroH,rfl,SO.zero _ _,hb.trans (put6_below hl)⟩
theorem GoP.zeroD {w W:World} {er:Int} {b:Nat} (hb:Below w.heap.size w W) (hl:w.heap.size≤b):GoP w (zeroS,⟨#[]⟩,er) (.returned (.tuple #[sV zeroH zeroS,.string ⟨#[]⟩,.int .i64 er])) ((put6 W b 0 zeroH zeroS).drew):=⟨zeroH,rfl,SO.zero _ _,(hb.trans (put6_below hl)).drew⟩
theorem six_keep {W:World} {a:Addr} {u:Value} {b:Nat} (h:W.cell? a=some u) (hne:a.block≠b) (v0 v1 v2 v3 v4 v5:Value): ((((((W.setCell ⟨b,0,none⟩ v0).setCell ⟨b,1,none⟩ v1).setCell ⟨b,2,none⟩ v2).setCell ⟨b,3,none⟩ v3).setCell ⟨b,4,none⟩ v4).setCell ⟨b,5,none⟩ v5).cell? a=some u:=by
 have k:∀ (W:World) (i:Nat) (v:Value),W.cell? a=some u→ (W.setCell ⟨b,i,none⟩ v).cell? a=some u:=fun W i v h=>(World.cell?_setCell_other _ _ _ _ (fun e=>hne (by rw [←e]))).trans h
 exact k _ _ _ (k _ _ _ (k _ _ _ (k _ _ _ (k _ _ _ (k _ _ _ h)))))
theorem cell_drewX (W:World) (a:Addr):W.drew.cell? a=W.cell? a:=rfl
theorem six_keepD {W:World} {a:Addr} {u:Value} {b:Nat} (h:W.cell? a=some u) (hne:a.block≠b) (v0 v1 v2 v3 v4 v5:Value): ((((((W.setCell ⟨b,0,none⟩ v0).setCell ⟨b,1,none⟩ v1).setCell ⟨b,2,none⟩ v2).setCell ⟨b,3,none⟩ v3).setCell ⟨b,4,none⟩ v4).setCell ⟨b,5,none⟩ v5).drew.cell? a=some u:=by
 rw [cell_drewX];exact six_keep h hne v0 v1 v2 v3 v4 v5
theorem waysF_len {W:World} {B n c:Nat} {o:Option Addr} {xs:List Value} (h:W.ownsRow B 39 6 (.slice o n c) n xs):n≤9223372036854775807:=by
 rcases h.2 with ⟨h1,h2⟩ | ⟨g,cap,cur,hv,hb,hh,hnc,hcm,_⟩
 · omega
 · unfold maxLen at hcm;omega
set_option maxRecDepth 100000 in
set_option maxHeartbeats 8000000 in
theorem xGoC {h:MH} {hs:SH} {ao:Option Addr} {ac:Nat} {E:EnvD} {x:WayD} {r:StateD × ByteArray × Int} (w:World) (hd:ED w.heap.size w h hs ao E) (hno:NoneP w)
 (hc:execE E=0→x ∈ waysF E→x.err=0→x=noneW∨WayF E x∧x.way≠ -1∧ (r.2.2=0→E.s.procs.length≤r.1.procs.length)∧∀ (B pe:Nat) (W:World),W.heap[pe]? =some (.cells (eCells h hs ao ac E) 36 (0,0))→B≤W.heap.size→ED B W h hs ao E→DoneH B pe W h ao ac E x r):
 Calls Tryz.prog 10 #[.agg (eCells h hs ao ac E),.agg #[.int .i64 x.esc,.int .i64 x.way,.int .i64 x.who,.int .i64 x.wesc,.int .i64 x.wway,.int .i64 x.err]] w (GoX w E x r):=by
 obtain ⟨ES,hES⟩:∃c,c=eCells h hs ao ac E:=⟨_,rfl⟩;rw [←hES];have hx0:=(XE.new hd hES).below (ball (.cells #[.int .i64 x.esc,.int .i64 x.way,.int .i64 x.who,.int .i64 x.wesc,.int .i64 x.wway,.int .i64 x.err] 39));have hx1:=hx0.below (ball (.cells #[.slice none 0 0,.slice none 0 0,.slice none 0 0,.int .i64 0,.int .i64 0,.int .i64 0] 33));have HXB:Hid ((((w.alloc (.cells ES 36)).alloc (.cells #[.int .i64 x.esc,.int .i64 x.way,.int .i64 x.who,.int .i64 x.wesc,.int .i64 x.wway,.int .i64 x.err] 39)).alloc (.cells #[.slice none 0 0,.slice none 0 0,.slice none 0 0,.int .i64 0,.int .i64 0,.int .i64 0] 33)).heap[w.heap.size+1]? =some (.cells #[.int .i64 x.esc,.int .i64 x.way,.int .i64 x.who,.int .i64 x.wesc,.int .i64 x.wway,.int .i64 x.err] 39 (0,0))):=Lib.hid ((Below.heap_alloc _ _ _ (by simp)).trans (at_new (by simp)));have HRB:Hid ((((w.alloc (.cells ES 36)).alloc (.cells #[.int .i64 x.esc,.int .i64 x.way,.int .i64 x.who,.int .i64 x.wesc,.int .i64 x.wway,.int .i64 x.err] 39)).alloc (.cells #[.slice none 0 0,.slice none 0 0,.slice none 0 0,.int .i64 0,.int .i64 0,.int .i64 0] 33)).heap[w.heap.size+1+1]? =some (.cells #[.slice none 0 0,.slice none 0 0,.slice none 0 0,.int .i64 0,.int .i64 0,.int .i64 0] 33 (0,0))):=Lib.hid (at_new (by simp));have HX:=Lib.hid hx1;have HNO:=Lib.hid hno;have HES:=Lib.hid hES;have HC:=Lib.hid hc;clear hd hno hES hc hx0 hx1;go_enter Tryz.func10,Tryz.ntmps10;go_upto_region 1 with fail
 generalize ((w.alloc (.cells ES 36)).alloc (.cells #[.int .i64 x.esc,.int .i64 x.way,.int .i64 x.who,.int .i64 x.wesc,.int .i64 x.wway,.int .i64 x.err] 39)).alloc (.cells #[.slice none 0 0,.slice none 0 0,.slice none 0 0,.int .i64 0,.int .i64 0,.int .i64 0] 33)=W0 at HX HXB HRB ⊢;have HK:Hid (∀W,Below W0.heap.size W0 W→XE w ES h hs ao ac E W∧ (W.cell? ⟨w.heap.size+1,0,none⟩=some (.int .i64 x.esc)∧W.cell? ⟨w.heap.size+1,1,none⟩=some (.int .i64 x.way)∧W.cell? ⟨w.heap.size+1,2,none⟩=some (.int .i64 x.who)∧W.cell? ⟨w.heap.size+1,3,none⟩=some (.int .i64 x.wesc)∧W.cell? ⟨w.heap.size+1,4,none⟩=some (.int .i64 x.wway)∧W.cell? ⟨w.heap.size+1,5,none⟩=some (.int .i64 x.err))∧W.heap[w.heap.size+1+1]? =some (.cells #[.slice none 0 0,.slice none 0 0,.slice none 0 0,.int .i64 0,.int .i64 0,.int .i64 0] 33 (0,0))∧NoneP W):=Lib.hid fun W hb=>by
  have xb:=(hb.block _ (lt_of_block HXB.out)).trans HXB.out;have hX:=HX.out.below hb;exact ⟨hX,⟨(cell_of_row _ _ _ _ _ _ xb).trans rfl,(cell_of_row _ _ _ _ _ _ xb).trans rfl,(cell_of_row _ _ _ _ _ _ xb).trans rfl,(cell_of_row _ _ _ _ _ _ xb).trans rfl,(cell_of_row _ _ _ _ _ _ xb).trans rfl,(cell_of_row _ _ _ _ _ _ xb).trans rfl⟩,(hb.block _ (lt_of_block HRB.out)).trans HRB.out,HNO.out.below hX.bel⟩
 clear HXB HRB HNO;go_wp2_with (refine wpList_load_row rfl _ _ rfl _ rfl _ ES _ _ HX.out.box Tryz.underlying36 rfl HX.out.info ?_);have HCK:=Lib.hid (xcheckC (ac:=ac) W0 HX.out.here);rw [←HES.out] at HCK;refine HCK.out.mono ?_;rintro e W1 ⟨rfl,hb1⟩;have HB1:=Lib.hid hb1;clear hb1 HCK HX;obtain ⟨er,her⟩:∃q,execE E=q:=⟨_,rfl⟩;rw [her];have HER:=Lib.hid her;clear her;by_cases h0:er=0;rotate_left
 · have hd0: (er != 0)=true:=by rw [bne_iff_ne];exact h0
   have HB:Hid (Below w.heap.size w W1):=Lib.hid (HK.out W1 HB1.out).1.bel;have xr:=(HK.out W1 HB1.out).2.2.1;have HZ:Hid (GoX w E x r (.returned (.tuple #[sV zeroH zeroS,.string ⟨#[]⟩,.int .i64 er])) (put6 W1 (w.heap.size+1+1) 0 zeroH zeroS)):=Lib.hid (GoX.bad (by rw [HER.out];exact h0) (by rw [HER.out];exact GoP.zero HB.out (by omega)));have q0:=(cell_of_row _ _ 0 _ _ _ xr).trans rfl;have q1:=(cell_of_row _ _ 1 _ _ _ xr).trans rfl;have q2:=(cell_of_row _ _ 2 _ _ _ xr).trans rfl;have q3:=(cell_of_row _ _ 3 _ _ _ xr).trans rfl;have q4:=(cell_of_row _ _ 4 _ _ _ xr).trans rfl;have q5:=(cell_of_row _ _ 5 _ _ _ xr).trans rfl;have t0:=frozen_of_row _ _ 0 _ _ xr;have t1:=frozen_of_row _ _ 1 _ _ xr;have t2:=frozen_of_row _ _ 2 _ _ xr;have t3:=frozen_of_row _ _ 3 _ _ xr;have t4:=frozen_of_row _ _ 4 _ _ xr;have t5:=frozen_of_row _ _ 5 _ _ xr;clear xr h0;go_wp2_with fail;refine bodyPost_ret (v:= .tuple #[sV zeroH zeroS,.string ⟨#[]⟩,.int .i64 er]) (by simp [sV,sCells,zeroH,zeroS,results,Tryz.results10,go_sem,q0,q1,q2,q3,q4,q5,t0,t1,t2,t3,t4,t5]) rfl ?_;exact HZ.out
 subst h0;obtain ⟨hok,hp0,-⟩:=execE_ok HER.out;have HOK:=Lib.hid (And.intro hok hp0);clear hok hp0;have HWC:Hid (∀W,Below W1.heap.size W1 W→Calls Tryz.prog 24 #[.pointer (some ⟨w.heap.size,0,none⟩)] W (XWaysP (waysF E) W)):=Lib.hid fun W hb=>by
  have hk:=HK.out W (HB1.out.trans (hb.mono HB1.out.size));exact xwaysC W (by rw [←hk.1.es];exact hk.1.box) hk.1.bel.size hk.1.ed HOK.out.1 HOK.out.2 hk.2.2.2
 have HBB:Hid (∀W,Below W1.heap.size W1 W→Below W0.heap.size W0 W):=Lib.hid fun W hb=>HB1.out.trans (hb.mono HB1.out.size)
 obtain ⟨b,hb⟩:∃b:Bool,(b=true↔x ∈ waysF E):=by
  by_cases hx:x ∈ waysF E
  · exact ⟨true,⟨fun _=>hx,fun _=>rfl⟩⟩
  · exact ⟨false,⟨(fun h=>by cases h),fun h=>absurd h hx⟩⟩
 have HBX:=Lib.hid hb;clear hb;go_upto_region 4 with fail
 go_cut [17] from 14 to 17 (fun v17 W'=>v17= .bool (!b)∧Hid (Below W1.heap.size W1 W'))
 case first=>
  have y0:∀W',Below W1.heap.size W1 W'→W'.cell? ⟨w.heap.size+1,0,none⟩=some (.int .i64 x.esc):=fun W' hb=>(HK.out W' (HBB.out W' hb)).2.1.1
  have y1:∀W',Below W1.heap.size W1 W'→W'.cell? ⟨w.heap.size+1,1,none⟩=some (.int .i64 x.way):=fun W' hb=>(HK.out W' (HBB.out W' hb)).2.1.2.1
  have y2:∀W',Below W1.heap.size W1 W'→W'.cell? ⟨w.heap.size+1,2,none⟩=some (.int .i64 x.who):=fun W' hb=>(HK.out W' (HBB.out W' hb)).2.1.2.2.1
  have y3:∀W',Below W1.heap.size W1 W'→W'.cell? ⟨w.heap.size+1,3,none⟩=some (.int .i64 x.wesc):=fun W' hb=>(HK.out W' (HBB.out W' hb)).2.1.2.2.2.1
  have y4:∀W',Below W1.heap.size W1 W'→W'.cell? ⟨w.heap.size+1,4,none⟩=some (.int .i64 x.wway):=fun W' hb=>(HK.out W' (HBB.out W' hb)).2.1.2.2.2.2.1
  have y5:∀W',Below W1.heap.size W1 W'→W'.cell? ⟨w.heap.size+1,5,none⟩=some (.int .i64 x.err):=fun W' hb=>(HK.out W' (HBB.out W' hb)).2.1.2.2.2.2.2
  have hR:Below W1.heap.size W1 W1:=Below.refl _ _;have hD:Below W1.heap.size W1 W1.drew:=(Below.refl _ _).drew
  go_region_law
   (first
     | (go_simp;go_at_call 24;refine (HWC.out _ hD).mono ?_;rintro e Wa ⟨v,rfl,hra,hba⟩;obtain ⟨oa,ca,rfl⟩:=owns_head hra;have hBa:Below W1.heap.size W1 Wa:=hD.trans (hba.mono hD.size);have HRA:=Lib.hid hra;clear hra hba)
     | (go_simp;go_at_call 23;refine (containsW x Wa HRA.out (waysF_len HRA.out)).mono ?_;rintro e Wb ⟨b2,rfl,hb2,hbb⟩;have hBb:Below W1.heap.size W1 Wb:=hBa.trans (hbb.mono hBa.size);have HB2:=Lib.hid hb2;clear hbb hb2))
  all_goals (
   try simp only [Exit.inBlock,Exit.then]
   have hbe:b2=b:=by rw [Bool.eq_iff_iff,HB2.out,HBX.out]
   subst hbe;clear y0 y1 y2 y3 y4 y5;go_wp2_with fail;go_meet;exact ⟨rfl,Lib.hid hBb⟩)
 case rest=>
 rename World=>Wc
 obtain ⟨rfl,HBC⟩:=hcut;have hk:=HK.out Wc (HBB.out Wc HBC.out);have HX:=Lib.hid hk.1;have HNO:=Lib.hid hk.2.2.2;obtain ⟨x0,x1,x2,x3,x4,x5⟩:=hk.2.1;have xr:=hk.2.2.1;have HB:Hid (Below w.heap.size w Wc):=Lib.hid hk.1.bel;have q0:=(cell_of_row _ _ 0 _ _ _ xr).trans rfl;have q1:=(cell_of_row _ _ 1 _ _ _ xr).trans rfl;have q2:=(cell_of_row _ _ 2 _ _ _ xr).trans rfl;have q3:=(cell_of_row _ _ 3 _ _ _ xr).trans rfl;have q4:=(cell_of_row _ _ 4 _ _ _ xr).trans rfl;have q5:=(cell_of_row _ _ 5 _ _ _ xr).trans rfl;have t0:=frozen_of_row _ _ 0 _ _ xr;have t1:=frozen_of_row _ _ 1 _ _ xr;have t2:=frozen_of_row _ _ 2 _ _ xr;have t3:=frozen_of_row _ _ 3 _ _ xr;have t4:=frozen_of_row _ _ 4 _ _ xr;have t5:=frozen_of_row _ _ 5 _ _ xr;clear hk xr;cases b
 · have HZ:Hid (GoX w E x r (.returned (.tuple #[sV zeroH zeroS,.string ⟨#[]⟩,.int .i64 42])) (put6 Wc (w.heap.size+1+1) 0 zeroH zeroS)):=Lib.hid (GoX.out HER.out (fun h=>by have:=HBX.out.2 h;cases this) (GoP.zero HB.out (by omega)));go_wp2_with fail;refine bodyPost_ret (v:= .tuple #[sV zeroH zeroS,.string ⟨#[]⟩,.int .i64 42]) (by simp [sV,sCells,zeroH,zeroS,results,Tryz.results10,go_sem,q0,q1,q2,q3,q4,q5,t0,t1,t2,t3,t4,t5]) rfl ?_;exact HZ.out
 have HIN:=Lib.hid (HBX.out.1 rfl);by_cases hxe:x.err=0;rotate_left
 · have hd1: (x.err != 0)=true:=by rw [bne_iff_ne];exact hxe
   have HZ:Hid (GoX w E x r (.returned (.tuple #[sV zeroH zeroS,.string ⟨#[]⟩,.int .i64 x.err])) ((put6 Wc (w.heap.size+1+1) 0 zeroH zeroS).drew)):=Lib.hid (GoX.err HER.out HIN.out hxe (GoP.zeroD HB.out (by omega)));clear hxe;go_wp2_with fail;have x5d:Wc.drew.cell? ⟨w.heap.size+1,5,none⟩=some (.int .i64 x.err):=x5;clear x0 x1 x2 x3 x4
   go_region_held3 (fun W=>W.cell? ⟨w.heap.size+1,5,none⟩=some (.int .i64 x.err))
    (first | with_reducible assumption | (with_reducible refine six_keep (by with_reducible assumption) ?_ _ _ _ _ _ _;simp) | (with_reducible refine six_keepD (by with_reducible assumption) ?_ _ _ _ _ _ _;simp))
    (fail)
   all_goals (
    try simp only [Exit.inBlock,Exit.then]
    go_wp2_with fail;refine bodyPost_ret (v:= .tuple #[sV zeroH zeroS,.string ⟨#[]⟩,.int .i64 x.err]) (by simp [sV,sCells,zeroH,zeroS,results,Tryz.results10,go_sem,q0,q1,q2,q3,q4,q5,t0,t1,t2,t3,t4,t5]) rfl ?_;exact HZ.out)
 have hd1: (x.err != 0)=false:=by rw [bne_eq_false_iff_eq];exact hxe
 have HXE:=Lib.hid hxe;have HGO:Hid (∀W,Below Wc.heap.size Wc W→Calls Tryz.prog 25 #[.pointer (some ⟨w.heap.size,0,none⟩),.agg #[.int .i64 x.esc,.int .i64 x.way,.int .i64 x.who,.int .i64 x.wesc,.int .i64 x.wway,.int .i64 x.err]] W (GoP W (goneR E x r))):=Lib.hid fun W hb=>by
  have hk:=HX.out.below hb;refine goneC W (B:=w.heap.size) (hs:=hs) (by rw [←HES.out];exact hk.box) hk.bel.size hk.ed HOK.out.1 HOK.out.2 (HNO.out.below hb) ?_;rcases HC.out HER.out HIN.out hxe with h1 | ⟨h1,h2,h3,h4⟩
  · exact .inl h1
  · exact .inr ⟨h1,h2,h3,h4 _ _ W (by rw [←HES.out];exact hk.box) hk.bel.size hk.ed⟩
 clear hxe;have HRX:Hid (∀W,Below Wc.heap.size Wc W→W.heap[w.heap.size+1+1]? =some (.cells #[.slice none 0 0,.slice none 0 0,.slice none 0 0,.int .i64 0,.int .i64 0,.int .i64 0] 33 (0,0))):=Lib.hid fun W hb=>(HK.out W (HBB.out W (HBC.out.trans (hb.mono HBC.out.size)))).2.2.1
 clear q0 q1 q2 q3 q4 q5 t0 t1 t2 t3 t4 t5;go_wp2_with fail;refine (HGO.out Wc (Below.refl _ _)).mono ?_;rintro e W5 ⟨h5,rfl,hso,hb5⟩;have HSO:=Lib.hid hso;have HB5:=Lib.hid hb5;have HYES:=Lib.hid (fun (e:Ending) (w':World) (k:GoP w (goneR E x r) e w')=>GoX.yes HER.out HIN.out HXE.out k);have xr:=HRX.out W5 hb5;have q0:=(cell_of_row _ _ 0 _ _ _ xr).trans rfl;have q1:=(cell_of_row _ _ 1 _ _ _ xr).trans rfl;have q2:=(cell_of_row _ _ 2 _ _ _ xr).trans rfl;have q3:=(cell_of_row _ _ 3 _ _ _ xr).trans rfl;have q4:=(cell_of_row _ _ 4 _ _ _ xr).trans rfl;have q5:=(cell_of_row _ _ 5 _ _ _ xr).trans rfl;have t0:=frozen_of_row _ _ 0 _ _ xr;have t1:=frozen_of_row _ _ 1 _ _ xr;have t2:=frozen_of_row _ _ 2 _ _ xr;have t3:=frozen_of_row _ _ 3 _ _ xr;have t4:=frozen_of_row _ _ 4 _ _ xr;have t5:=frozen_of_row _ _ 5 _ _ xr;obtain ⟨⟨sF,txt,eF⟩,hgr⟩:∃q,goneR E x r=q:=⟨_,rfl⟩;rw [hgr] at HSO HYES ⊢;clear hgr hso hb5 xr x0 x1 x2 x3 x4 x5 hd1 HGO HRX;have HP:Hid (SO w.heap.size (put6 W5 (w.heap.size+1+1) 0 h5 sF) h5 sF∧Below w.heap.size w (put6 W5 (w.heap.size+1+1) 0 h5 sF)):=Lib.hid (by
  obtain ⟨R5,ho5,hsp5⟩:=HSO.out;have hlt:w.heap.size+1+1 < Wc.heap.size:=by
   have:=(HK.out Wc (HBB.out Wc HBC.out)).2.2.1;exact lt_of_block this
  exact ⟨⟨R5,(put6_own ho5 hlt).mono HB.out.size,hsp5⟩,(HB.out.trans (HB5.out.mono HB.out.size)).trans (put6_below (by omega))⟩)
 unfold sV sCells;go_wp2_with fail;refine bodyPost_ret (v:= .tuple #[sV h5 sF,.string txt,.int .i64 eF]) (by simp [sV,sCells,results,Tryz.results10,go_sem,q0,q1,q2,q3,q4,q5,t0,t1,t2,t3,t4,t5]) rfl ?_;exact HYES.out _ _ ⟨h5,rfl,HP.out.1,HP.out.2⟩
end Go.Proofs.YthfldokfnjpkmaaGreatDoor
namespace Go.Proofs.YthfldokfnjpkmaaGreatDoor
open Go.ChangeShapes Go.WideShapes Go.ChangeAt Go.RowKit
set_option maxRecDepth 100000 in
set_option maxHeartbeats 4000000 in
theorem doneSkip {B pe:Nat} {h:MH} {ao:Option Addr} {ac:Nat} {E:EnvD} {x:WayD} (w:World) (h8: (transE E x.esc x.way).s.kind=8):DoneH B pe w h ao ac E x (E.s,⟨#[]⟩,0):=by
 intro w0 W g off hb hg hs hn;have c0:=hs.c0;rw [h8] at c0;have HN:=Lib.hid hn;have hbx:=ball (w:=W) (.cells #[.int .i64 x.esc,.int .i64 x.way,.int .i64 x.who,.int .i64 x.wesc,.int .i64 x.wway,.int .i64 x.err] 39);have c1: (W.alloc (.cells #[.int .i64 x.esc,.int .i64 x.way,.int .i64 x.who,.int .i64 x.wesc,.int .i64 x.wway,.int .i64 x.err] 39)).cell? ⟨g,off,none⟩=some (.int .i64 8):=(hbx.cell (p:=⟨g,off,none⟩) (World.block_lt_of_cell? W _ c0)).trans c0;have HB:=Lib.hid hbx;clear hs hn h8 hbx;go_enter Tryz.func46,Tryz.ntmps46;go_upto_region 1 with fail
 generalize W.alloc (.cells #[.int .i64 x.esc,.int .i64 x.way,.int .i64 x.who,.int .i64 x.wesc,.int .i64 x.wway,.int .i64 x.err] 39)=W1 at HB c1 ⊢;clear c0;go_wp2_with fail;refine bodyPost_ret (v:= .tuple #[.string ⟨#[]⟩,.int .i64 0]) (by simp [results,Tryz.results46,go_sem]) rfl ?_;obtain ⟨hh,R,k⟩:=HN.out;exact ⟨rfl,(k.below HB.out).bel,fun _=>⟨hh,R,k.below HB.out⟩⟩
end Go.Proofs.YthfldokfnjpkmaaGreatDoor
namespace Go.Proofs.YthfldokfnjpkmaaGreatDoor
open Go.ChangeShapes Go.WideShapes Go.ChangeAt Go.RowKit
def xTr:TransD:=⟨⟨8,-1,-1,0,[],[],⟨#[]⟩⟩,1,0⟩
def xLs:List LocD:=[⟨[xTr],[],false,false,false,false,false⟩,⟨[],[],false,false,false,false,false⟩]
def xPr:ProcD:=⟨⟨#[]⟩,0,[],[],xLs,0,1,1,1,-1⟩
def xmD:ModelD:=⟨[],[],[],[],[xPr],-1,[]⟩
def xsD:StateD:=⟨[],[],[⟨0,0,1,[]⟩],0,-1,-1⟩
def xE:EnvD:=⟨xmD,xsD,0,false,[]⟩
def xW:WayD:=⟨-1,0,-1,-1,-1,0⟩
def zW:WayD:=⟨0,0,0,0,0,0⟩
theorem xe_ok:execE xE=0:=by decide+kernel
theorem xs_ok:stateE xmD xsD=0:=by decide+kernel
theorem x_ways:waysF xE= [xW]:=by kernel_rfl
theorem x_able:ableF xmD xsD= [true]:=by kernel_rfl
theorem x_gone:goneR xE xW (xsD,⟨#[]⟩,0)= (⟨[],[],[⟨0,1,1,[]⟩],0,-1,-1⟩,⟨#[]⟩,0):=by kernel_rfl
theorem x_wayF:WayF xE xW:=⟨by decide,fun h=>absurd h (by decide),by kernel_rfl,fun h=>absurd h (by decide)⟩
theorem x_kind: (transE xE xW.esc xW.way).s.kind=8:=by kernel_rfl
def xoT:Array Value:=#[.int .i64 8,.int .i64 (-1),.int .i64 (-1),.int .i64 0,.slice none 0 0,.slice none 0 0,.string ⟨#[]⟩,.int .i64 1,.int .i64 0]
def xoL (t:Nat):Array Value:=#[.slice (some ⟨t,0,none⟩) 1 1,.slice none 0 0,.bool false,.bool false,.bool false,.bool false,.bool false,.slice none 0 0,.slice none 0 0,.bool false,.bool false,.bool false,.bool false,.bool false]
def xoP (l:Nat):Array Value:=#[.string ⟨#[]⟩,.int .i64 0,.slice none 0 0,.slice none 0 0,.slice (some ⟨l,0,none⟩) 2 2,.int .i64 0,.int .i64 1,.int .i64 1,.int .i64 1,.int .i64 (-1)]
def xoM (p:Nat):Array Value:=#[.slice none 0 0,.slice none 0 0,.slice none 0 0,.slice none 0 0,.slice (some ⟨p,0,none⟩) 1 1,.int .i64 (-1),.slice none 0 0]
def xoQ:Array Value:=#[.int .i64 0,.int .i64 0,.int .i64 1,.slice none 0 0]
def xoS (q:Nat):Array Value:=#[.slice none 0 0,.slice none 0 0,.slice (some ⟨q,0,none⟩) 1 1,.int .i64 0,.int .i64 (-1),.int .i64 (-1)]
def xoE (p q:Nat):Array Value:=#[.slice none 0 0,.slice none 0 0,.slice none 0 0,.slice none 0 0,.slice (some ⟨p,0,none⟩) 1 1,.int .i64 (-1),.slice none 0 0,.slice none 0 0,.slice none 0 0,.slice (some ⟨q,0,none⟩) 1 1,.int .i64 0,.int .i64 (-1),.int .i64 (-1),.int .i64 0,.bool false,.slice none 0 0]
structure Xm (W:World) (t l p q:Nat):Prop where
 b1:W.heap[t]? =some (.cells xoT 67 (0,0))
 b2:W.heap[l]? =some (.cells (xoL t) 70 (0,0))
 b3:W.heap[p]? =some (.cells (xoP l) 73 (0,0))
 b4:W.heap[q]? =some (.cells xoQ 60 (0,0))
def xmH (p:Nat):MH:=⟨none,0,none,0,none,0,none,0,some ⟨p,0,none⟩,1,none,0⟩
def xsH (q:Nat):SH:=⟨none,0,none,0,some ⟨q,0,none⟩,1⟩
section
variable {W W':World} {t l p q:Nat}
theorem Xm.below (k:Xm W t l p q) (hb:Below W.heap.size W W'):Xm W' t l p q:=
 ⟨(hb.block _ (lt_of_block k.b1)).trans k.b1,(hb.block _ (lt_of_block k.b2)).trans k.b2,(hb.block _ (lt_of_block k.b3)).trans k.b3,(hb.block _ (lt_of_block k.b4)).trans k.b4⟩
theorem xRow {α:Type} {B:Nat} {g:Nat} {k:Nat} {R:Nat→Nat→α→Prop} {l:List α} (hg:g < B) (hl:l.length≤100) (h:∀i (hi:i < l.length),R g (i*k) l[i]):Row B (some ⟨g,0,none⟩) k R l:=
 ⟨by omega,.inr ⟨g,0,rfl,hg,fun i hi=>by rw [Nat.zero_add];exact h i hi⟩⟩
set_option maxRecDepth 100000 in
theorem Xm.md (k:Xm W t l p q):MD W.heap.size W (xmH p) xmD:=by
 have ct:∀ (j:Nat) (v:Value),xoT[j]? =some v→W.cell? ⟨t,j,none⟩=some v:=fun j v hv=>(cell_of_row _ _ j _ _ _ k.b1).trans hv
 have cl:∀ (j:Nat) (v:Value),(xoL t)[j]? =some v→W.cell? ⟨l,j,none⟩=some v:=fun j v hv=>(cell_of_row _ _ j _ _ _ k.b2).trans hv
 have cp:∀ (j:Nat) (v:Value),(xoP l)[j]? =some v→W.cell? ⟨p,j,none⟩=some v:=fun j v hv=>(cell_of_row _ _ j _ _ _ k.b3).trans hv
 have nilS:∀ {α:Type} (g a k:Nat) (R:Nat→Nat→α→Prop),W.cell? ⟨g,a,none⟩=some (.slice none 0 0)→Sli W.heap.size W g a k R []:=fun g a k R hc=>⟨none,0,hc,Row.nil _ _ _ _⟩
 have T1:Row W.heap.size (some ⟨t,0,none⟩) 9 (transAt W.heap.size W) [xTr]:=row_one1 (lt_of_block k.b1) ⟨⟨ct _ _ rfl,ct _ _ rfl,ct _ _ rfl,ct _ _ rfl,nilS _ _ _ _ (ct _ _ rfl),nilS _ _ _ _ (ct _ _ rfl),ct _ _ rfl⟩,ct _ _ rfl,ct _ _ rfl⟩;have LS:Row W.heap.size (some ⟨l,0,none⟩) 7 (locAt W.heap.size W) xLs:=xRow (lt_of_block k.b2) (by decide) (fun j hj=>by
  have hj':j=0∨j=1:=by have :j < 2:=hj;omega
  rcases hj' with rfl | rfl
  · exact ⟨⟨_,_,cl 0 _ rfl,T1⟩,nilS _ _ _ _ (cl 1 _ rfl),cl 2 _ rfl,cl 3 _ rfl,cl 4 _ rfl,cl 5 _ rfl,cl 6 _ rfl⟩
  · exact ⟨nilS _ _ _ _ (cl 7 _ rfl),nilS _ _ _ _ (cl 8 _ rfl),cl 9 _ rfl,cl 10 _ rfl,cl 11 _ rfl,cl 12 _ rfl,cl 13 _ rfl⟩)
 have P:procAt W.heap.size W p 0 xPr:=⟨cp _ _ rfl,cp _ _ rfl,nilS _ _ _ _ (cp 2 _ rfl),nilS _ _ _ _ (cp 3 _ rfl),⟨_,_,cp 4 _ rfl,LS⟩,cp _ _ rfl,cp _ _ rfl,cp _ _ rfl,cp _ _ rfl,cp _ _ rfl⟩;exact ⟨Row.nil _ _ _ _,Row.nil _ _ _ _,Row.nil _ _ _ _,Row.nil _ _ _ _,row_one1 (lt_of_block k.b3) P,Row.nil _ _ _ _⟩
theorem Xm.sd (k:Xm W t l p q):SD W.heap.size W (xsH q) xsD:=by
 have cq:∀ (j:Nat) (v:Value),xoQ[j]? =some v→W.cell? ⟨q,j,none⟩=some v:=fun j v hv=>(cell_of_row _ _ j _ _ _ k.b4).trans hv
 exact ⟨Row.nil _ _ _ _,Row.nil _ _ _ _,row_one1 (lt_of_block k.b4) ⟨cq 0 _ rfl,cq 1 _ rfl,cq 2 _ rfl,⟨none,0,cq 3 _ rfl,Row.nil _ _ _ _⟩⟩⟩
theorem Xm.ed (k:Xm W t l p q):ED W.heap.size W (xmH p) (xsH q) none xE:=⟨k.md,k.sd,Row.nil _ _ _ _⟩
theorem x_mV (p:Nat):mV (xmH p) xmD= .agg (xoM p):=rfl
theorem x_sV (q:Nat):sV (xsH q) xsD= .agg (xoS q):=rfl
theorem x_eC (p q:Nat):eCells (xmH p) (xsH q) none 0 xE=xoE p q:=rfl
theorem Xm.ways (k:Xm W t l p q) (hno:NoneP W):Calls Tryz.prog 18 #[.agg (xoE p q)] W fun e W'=>∃g c,e= .returned (.tuple #[.slice (some ⟨g,0,none⟩) 1 c,.int .i64 0])∧W'.ownsRow W.heap.size 39 6 (.slice (some ⟨g,0,none⟩) 1 c) 1 (waysV [xW])∧Below W.heap.size W W':=by
 have h:=xWaysC (ac:=0) W k.ed hno;rw [x_eC] at h;refine h.mono fun e W' ⟨hb,_,hy⟩=> ?_
 obtain ⟨o,c,he,hr⟩:=hy xe_ok;rw [x_ways] at he hr;obtain ⟨g,c',hv⟩:=Joins.ownsRow_form hr (by decide);injection hv with e1 _ e3
 subst e1 e3;exact ⟨g,_,he,hr,hb⟩
theorem Xm.go1 (k:Xm W t l p q) (hno:NoneP W):Calls Tryz.prog 10 #[.agg (xoE p q),.agg #[.int .i64 (-1),.int .i64 0,.int .i64 (-1),.int .i64 (-1),.int .i64 (-1),.int .i64 0]] W fun e W'=>∃ (h:SH) (g:Nat),e= .returned (.tuple #[.agg #[.slice h.go 0 h.gc,.slice h.co 0 h.cc,.slice (some ⟨g,0,none⟩) 1 h.pc,.int .i64 0,.int .i64 (-1),.int .i64 (-1)],.string ⟨#[]⟩,.int .i64 0])∧W.heap.size≤g∧g < W'.heap.size∧W'.cell? ⟨g,1,none⟩=some (.int .i64 1)∧Below W.heap.size W W':=by
 have h:=xGoC (ac:=0) (x:=xW) (r:=(xsD,⟨#[]⟩,0)) W k.ed hno (fun _ _ _=> .inr ⟨x_wayF,by decide,fun _=>Nat.le_refl _,fun B pe W1 _ _ _=>doneSkip W1 x_kind⟩);rw [x_eC] at h;refine Calls.mono h fun e W' hx=> ?_
 have h2:=(hx.2 xe_ok).2 (by rw [x_ways];exact List.mem_singleton.2 rfl);have h3:=h2.2 rfl;rw [x_gone] at h3;obtain ⟨hh,he,⟨R,ho,hsp⟩,hb⟩:=h3;obtain ⟨g,xs,e1,e2,e3⟩:=procs_own ho hsp (by decide);obtain ⟨ys,hy,hi⟩:=hsp.p;have hxy:xs=ys:=by rw [e2] at hy;injection hy
 have hc0:xs[1]? =some (.int .i64 1):=by rw [hxy];exact (hi 0 (by decide)).2.1
 have hc:=(e3.cellAt 1 (by decide)).trans hc0;have hlt:=e3.lt g rfl;refine ⟨hh,g, ?_,hlt.1,hlt.2,hc,hb⟩;rw [he];unfold sV sCells;simp only [List.length_nil,List.length_singleton];rw [e1]
theorem Xm.go0 (k:Xm W t l p q) (hno:NoneP W):Calls Tryz.prog 10 #[.agg (xoE p q),.agg #[.int .i64 0,.int .i64 0,.int .i64 0,.int .i64 0,.int .i64 0,.int .i64 0]] W fun e W'=>∃h:SH,e= .returned (.tuple #[.agg #[.slice h.go 0 h.gc,.slice h.co 0 h.cc,.slice h.po 0 h.pc,.int .i64 0,.int .i64 0,.int .i64 0],.string ⟨#[]⟩,.int .i64 42])∧Below W.heap.size W W':=by
 have hnot:zW ∉ waysF xE:=by
  rw [x_ways];intro h;have:=congrArg WayD.esc (List.mem_singleton.1 h);exact absurd this (by decide)
 have h:=xGoC (ac:=0) (x:=zW) (r:=(xsD,⟨#[]⟩,0)) W k.ed hno (fun _ h _=>absurd h hnot);rw [x_eC] at h;refine Calls.mono h fun e W' hx=> ?_
 obtain ⟨hh,he,-,hb⟩:=(hx.2 xe_ok).1 hnot;exact ⟨hh,he,hb⟩
theorem Xm.able (k:Xm W t l p q) (hno:NoneP W):Calls Tryz.prog 15 #[.agg (xoM p),.agg (xoS q)] W fun e W'=>∃g,e= .returned (.tuple #[.slice (some ⟨g,0,none⟩) 1 1,.int .i64 0])∧g < W'.heap.size∧W'.cell? ⟨g,0,none⟩=some (.bool true)∧Below W.heap.size W W':=by
 have h:=xAbleC W k.md k.sd hno;rw [x_mV,x_sV] at h;refine h.mono fun e W' ⟨hb,_,hy⟩=> ?_
 obtain ⟨g,he,hr⟩:=hy xs_ok;rw [x_able] at hr;exact ⟨g,he,(hr.lt g rfl).2,(hr.cellAt 0 (by decide)).trans rfl,hb⟩
end
end Go.Proofs.YthfldokfnjpkmaaGreatDoor
