/- ExprStores: every variable has the document's slot, and is made another number there, fitted, and nowhere else. -/
import Derived.Test.YtbhgdlfndamklaaGreatDoorS23
import Derived.Test.YtbhgdlfndamklaaGreatDoorS47
import Derived.Test.YtbhgdlfndamklaaGreatDoorS48
import Derived.Test.YtbhgdlfndamklaaGreatDoorS31
import Derived.Test.YtbhgdlfndamklaaGreatDoorS01
import Derived.Test.YtbhgdlfndamklaaGreatDoorS28
import Derived.Test.YtbhgdlfndamklaaGreatDoorS20
import Derived.Test.YtbhgdlfndamklaaGreatDoorS43
import Derived.Test.YtbhgdlfndamklaaGreatDoorS21
import Derived.Test.YtbhgdlfndamklaaGreatDoorCards
import Derived.Test.YtbhgdlfndamklaaGreatDoorTie
import Derived.Deep.DeepHandedRow
import Derived.Deep.DeepWitnessRowRef
import Derived.Lib.LaidIn
import Derived.Lib.LaidTab
import Derived.LaidLaws
import Derived.Stop.LaidErr
import Derived.Lib.SmallJoins
set_option linter.unusedVariables false
set_option linter.unusedSimpArgs false
namespace Go.Proofs.YtbhgdlfndamklaaGreatDoor.exprStores
open Go.ChangeShapes Go.WideShapes Go.ChangeAt Go.RowKit
structure Sb (w0:World) (T b:Nat) (h:SH) (s:StateD) (W:World):Prop where
 bx:Bq w0 T (sCells h s) 33 W
 le:b≤W.heap.size
 sd:SD b W h s
theorem Sb.below {w0 W W':World} {T b:Nat} {h:SH} {s:StateD} (k:Sb w0 T b h s W) (hb:Below W.heap.size W W'):Sb w0 T b h s W':=⟨k.bx.below hb,Nat.le_trans k.le hb.size,k.sd.below (hb.mono k.le)⟩
theorem Sb.info (h:SH) (s:StateD): (Tryz.prog.info? 33).map (·.size)=some (sCells h s).size:=by
 show _=some 6;kernel_rfl
theorem Lens.zero:Lens zeroS:=⟨by simp [zeroS],by simp [zeroS],by simp [zeroS],fun x hx=>by simp [zeroS] at hx,fun x hx=>by simp [zeroS] at hx⟩
theorem store_lens {E:EnvD} (hl:Lens E.s) (x v:Int):Lens (envStore E x v).1:=by
 unfold envStore;split
 · exact Lens.zero
 · split
   · exact Lens.zero
   · unfold setS;exact Lens.put hl _ _ _
theorem store_at {E:EnvD} {x:Int} (h:envE E x=0) (v:Int):envStore E x v=dStore E (exprNo E x) v:=by
 unfold envStore dStore;rw [if_neg (by omega)]
section
variable {w W W':World} {ES:Array Value} {h:MH} {hs:SH} {ao:Option Addr} {ac:Nat} {E:EnvD}
theorem zs_check (k:Zs w ES h hs ao ac E W) (hab:ArgsB E.m) (x:Int):Calls Tryz.prog 6 #[.agg ES,.int .i64 x] W fun e W'=>e= .returned (.int .i64 (envE E x))∧Below W.heap.size W W':=by
 rw [k.es];exact check14H x W (Nat.le_refl _) k.here hab
theorem zs_slot (k:Zs w ES h hs ao ac E W) (x:Int):Calls Tryz.prog 12 #[.agg ES,.int .i64 x] W fun e W'=>e= .returned (.tuple #[.int .i64 (envSlot E x).1,.int .i64 (envSlot E x).2.1,.int .i64 (envSlot E x).2.2])∧Below W.heap.size W W':=by
 rw [k.es];exact eSlotC x W (Nat.le_refl _) k.here
theorem zs_store (k:Zs w ES h hs ao ac E W) (x v:Int):Calls Tryz.prog 13 #[.agg ES,.int .i64 x,.int .i64 v] W (StoreP W (envStore E x v)):=by
 rw [k.es];exact eStoreC x v W (Nat.le_refl _) k.here
theorem zs_dslot (k:Zs w ES h hs ao ac E W) {x:Int} (h0:envE E x=0):Calls Tryz.prog 14 #[.agg ES,.int .i64 x] W fun e W'=>e= .returned (.tuple #[.int .i64 (envSlot E x).1,.int .i64 (envSlot E x).2.1,.int .i64 (envSlot E x).2.2])∧Below W.heap.size W W':=by
 obtain ⟨hok,hx0,hxl⟩:=envE_ok h0;obtain ⟨j,rfl⟩:∃j:Nat,x=j:=⟨x.toNat,by omega⟩;obtain ⟨xx,hxx⟩:∃y,E.m.exprs[j]? =some y:=⟨_,List.getElem?_eq_getElem (by omega)⟩;have hv:envSlot E j=rslotB E (evE E) xx:=by unfold envSlot exprNo;rw [h0,if_neg (by simp),Int.toNat_natCast,hxx];rfl
 have hvf:=fun h2=>var_facts hok hxx h2
 rw [k.es,hv];exact slot14H W k.here hok (evalH hok) hxx (fun h2=>(hvf h2).1) (fun h2 hs=>by have:=(hvf h2).2.1 hs;omega) (fun h2 d hd=>by have:=(hvf h2).2.2 d hd;omega)
theorem zs_dstore (k:Zs w ES h hs ao ac E W) {x:Int} (h0:envE E x=0) (v:Int):Calls Tryz.prog 15 #[.agg ES,.int .i64 x,.int .i64 v] W (StoreP W (envStore E x v)):=by
 rw [store_at h0 v];obtain ⟨hok,hx0,hxl⟩:=envE_ok h0;obtain ⟨j,rfl⟩:∃j:Nat,x=j:=⟨x.toNat,by omega⟩;obtain ⟨xx,hxx⟩:∃y,E.m.exprs[j]? =some y:=⟨_,List.getElem?_eq_getElem (by omega)⟩;have hv:exprNo E j=xx:=by unfold exprNo;rw [Int.toNat_natCast,hxx];rfl
 rw [k.es,hv];exact store14H v W k.here hok hxx
end
set_option maxRecDepth 100000 in
set_option maxHeartbeats 4000000 in
theorem walk {h:MH} {hs:SH} {ao:Option Addr} {ac:Nat} {E:EnvD} (v:Int) (w:World) (hd:ED w.heap.size w h hs ao E) (hab:ArgsB E.m) (hlb:LensB E.s) (ht:TabW w):Calls Tryz.prog 4 #[.agg (eCells h hs ao ac E),.int .i64 v] w fun e w'=>e= .returned (.bool true)∧Below w.heap.size w w':=by
 obtain ⟨ES,hES⟩:∃c,c=eCells h hs ao ac E:=⟨_,rfl⟩;have HX0:=Lib.hid (Zs.new hd hES);have HT0:Hid (TabW (w.alloc (.cells ES 36))):=Lib.hid (ht.below (ball _));have HAB:=Lib.hid hab;have HLB:=Lib.hid hlb;have HLN:=Lib.hid (SD.lens hd.sd);have hel:=hd.md.exprs.1;rw [←hES];clear hd ht hES hab hlb;go_enter Tryz.func4,Tryz.ntmps4;go_wp2_with fail;refine (shownC _ HT0.out).mono ?_;rintro e w1 ⟨rfl,hb1⟩;have HX1:=Lib.hid (HX0.out.below hb1);clear hb1 HX0 HT0;have HCP:Hid (Calls Tryz.prog 11 #[sV hs E.s] w1 (CopyP w.heap.size w1 E.s)):=Lib.hid (copy12H w1 HX1.out.bx.bel.size HX1.out.ed.sd HLB.out);unfold sV sCells at HCP;have s0:w1.cell? ⟨w.heap.size,7,none⟩=some (.slice hs.go E.s.globals.length hs.gc):=HX1.out.cell rfl;have s1:w1.cell? ⟨w.heap.size,8,none⟩=some (.slice hs.co E.s.chans.length hs.cc):=HX1.out.cell rfl;have s2:w1.cell? ⟨w.heap.size,9,none⟩=some (.slice hs.po E.s.procs.length hs.pc):=HX1.out.cell rfl;have s3:w1.cell? ⟨w.heap.size,10,none⟩=some (.int .i64 E.s.last):=HX1.out.cell rfl;have s4:w1.cell? ⟨w.heap.size,11,none⟩=some (.int .i64 E.s.alone):=HX1.out.cell rfl;have s5:w1.cell? ⟨w.heap.size,12,none⟩=some (.int .i64 E.s.claim):=HX1.out.cell rfl;go_wp2_with fail;refine HCP.out.mono ?_;rintro e W2 ⟨hw,rfl,hso,hb2⟩;clear s0 s1 s2 s3 s4 s5 HCP;have HX2:=Lib.hid (HX1.out.below hb2);have HX3:=Lib.hid (HX2.out.below (ball (.cells (sCells hw E.s) 33)));have HWS:Hid (Sb w W2.heap.size W2.heap.size hw E.s (W2.alloc (.cells (sCells hw E.s) 33))):=Lib.hid ⟨Bq.new HX2.out.bx.bel _ _,by simp,(hso.sd HLN.out).below (ball _)⟩;clear hb2 hso HX1 HX2;unfold sCells at HX3;unfold sV sCells;go_upto_region 3 with fail
 obtain ⟨T,hT⟩:∃T,W2.heap.size=T:=⟨_,rfl⟩;have HWS2:Hid (Sb w T T hw E.s (W2.alloc (.cells #[.slice hw.go E.s.globals.length hw.gc,.slice hw.co E.s.chans.length hw.cc,.slice hw.po E.s.procs.length hw.pc,.int .i64 E.s.last,.int .i64 E.s.alone,.int .i64 E.s.claim] 33))):=Lib.hid (hT ▸ HWS.out);generalize W2.alloc (.cells #[.slice hw.go E.s.globals.length hw.gc,.slice hw.co E.s.chans.length hw.cc,.slice hw.po E.s.procs.length hw.pc,.int .i64 E.s.last,.int .i64 E.s.alone,.int .i64 E.s.claim] 33)=W3 at HX3 HWS2 ⊢;rw [hT];clear hT HWS;go_wp2_with fail
 go_loopw [7] (fun xv W=>∃x:Int,xv= .int .i64 x∧ -1≤x∧x≤201∧Hid (Zs w ES h hs ao ac E W)∧Hid (Sb w T T hw E.s W)) (fun xv _=>(201 - intOf xv).toNat)
 case atStart=>exact ⟨-1,rfl,by omega,by omega,HX3,HWS2⟩
 case round=>
  clear HX3 HWS2;obtain ⟨x,rfl,hx0,hx1,HX,HWS⟩:=hrel;have c6:wr.cell? ⟨w.heap.size,6,none⟩=some (.slice h.eo E.m.exprs.length h.ec):=HX.out.cell rfl;by_cases hlt:x≤E.m.exprs.length;rotate_left
  · have hl1:decide (x≤ (E.m.exprs.length:Int))=false:=decide_eq_false hlt;go_wp2_with fail;go_ret;exact ⟨rfl,HX.out.bx.bel⟩
  have hl1:decide (x≤ (E.m.exprs.length:Int))=true:=decide_eq_true hlt;by_cases hlu:x≤200;rotate_left
  · have hl2:decide (x≤200)=false:=decide_eq_false hlu;go_wp2_with fail;go_ret;exact ⟨rfl,HX.out.bx.bel⟩
  have hl2:decide (x≤200)=true:=decide_eq_true hlu;have HCK:=Lib.hid (zs_check HX.out HAB.out x);go_wp2_with (refine wpList_load_row rfl _ _ rfl _ rfl _ ES _ _ HX.out.bx.box Tryz.underlying36 rfl HX.out.info ?_);refine HCK.out.mono ?_;rintro e W1 ⟨rfl,hb1⟩;have HX1:=Lib.hid (HX.out.below hb1);have HS1:=Lib.hid (HWS.out.below hb1);clear hb1 HCK HX HWS c6;obtain ⟨bad,hbad⟩:∃b,envE E x=b:=⟨_,rfl⟩;rw [hbad];have HBAD:=Lib.hid hbad;clear hbad;have HE1:=Lib.hid (zs_slot HX1.out x);obtain ⟨⟨p,k,f⟩,hev⟩:∃r,envSlot E x=r:=⟨_,rfl⟩;have HEV:=Lib.hid hev;rw [hev] at HE1;simp only at HE1;clear hev;go_wp2_with (refine wpList_load_row rfl _ _ rfl _ rfl _ ES _ _ HX1.out.bx.box Tryz.underlying36 rfl HX1.out.info ?_);refine HE1.out.mono ?_;rintro e W2 ⟨rfl,hb2⟩;have HX2:=Lib.hid (HX1.out.below hb2);have HS2:=Lib.hid (HS1.out.below hb2);clear hb2 HE1 HX1 HS1;have HC1:=Lib.hid (zs_store HX2.out x v);have HLS:=Lib.hid (store_lens HLN.out x v);obtain ⟨⟨s1,g⟩,hch⟩:∃r,envStore E x v=r:=⟨_,rfl⟩;have HCH:=Lib.hid hch;rw [hch] at HC1 HLS;clear hch;go_wp2_with (refine wpList_load_row rfl _ _ rfl _ rfl _ ES _ _ HX2.out.bx.box Tryz.underlying36 rfl HX2.out.info ?_);refine HC1.out.mono ?_;rintro e W3 ⟨h1,rfl,hso,hb3⟩;have HX3:=Lib.hid (HX2.out.below hb3);have HS3:=Lib.hid (HS2.out.below hb3);have HX4:=Lib.hid (HX3.out.below (ball (.cells (sCells h1 s1) 33)));have HS4:=Lib.hid (HS3.out.below (ball (.cells (sCells h1 s1) 33)));have HN4:Hid (Sb w W3.heap.size W3.heap.size h1 s1 (W3.alloc (.cells (sCells h1 s1) 33))):=Lib.hid ⟨Bq.new HX3.out.bx.bel _ _,by simp,(hso.sd HLS.out).below (ball _)⟩;clear hb3 hso HC1 HX2 HS2 HX3 HS3;unfold sCells at HX4 HS4 HN4;unfold sV sCells;go_upto_region 9 with fail
  obtain ⟨T1,hT1⟩:∃T,W3.heap.size=T:=⟨_,rfl⟩;generalize W3.alloc (.cells #[.slice h1.go s1.globals.length h1.gc,.slice h1.co s1.chans.length h1.cc,.slice h1.po s1.procs.length h1.pc,.int .i64 s1.last,.int .i64 s1.alone,.int .i64 s1.claim] 33)=W4 at HX4 HS4 HN4 ⊢;rw [hT1] at HN4 ⊢;clear hT1;by_cases hb:bad=0;rotate_left
  · have d0: (bad != 0)=true:=by rw [bne_iff_ne];exact hb
    have hv: (p,k,f)= (0,0,bad):=by rw [←HEV.out];unfold envSlot;rw [HBAD.out,if_pos hb]
    have hc: (s1,g)= (zeroS,bad):=by rw [←HCH.out];unfold envStore;rw [HBAD.out,if_pos hb]
    injection hv with hv1 hv2
    injection hv2 with hv2 hv3
    injection hc with hc1 hc2
    have d1: (f != bad)=false:=by rw [hv3];simp
    have d2: (g != bad)=false:=by rw [hc2];simp
    clear hb hv1 hv2 hv3 hc1 hc2;go_wp2_with fail;go_roundw;case rel=>exact ⟨x+1,by go_num,by omega,by omega,HX4,HS4⟩
    case measure=>simp [intOf];omega
  subst hb;have HF1:=Lib.hid (zs_dslot HX4.out HBAD.out);rw [HEV.out] at HF1;simp only at HF1;go_wp2_with (refine wpList_load_row rfl _ _ rfl _ rfl _ ES _ _ HX4.out.bx.box Tryz.underlying36 rfl HX4.out.info ?_);refine HF1.out.mono ?_;rintro e W5 ⟨rfl,hb5⟩;have HX5:=Lib.hid (HX4.out.below hb5);have HS5:=Lib.hid (HS4.out.below hb5);have HN5:=Lib.hid (HN4.out.below hb5);clear hb5 HF1 HX4 HS4 HN4;have HF2:=Lib.hid (zs_dstore HX5.out HBAD.out v);rw [HCH.out] at HF2;go_wp2_with (refine wpList_load_row rfl _ _ rfl _ rfl _ ES _ _ HX5.out.bx.box Tryz.underlying36 rfl HX5.out.info ?_);refine HF2.out.mono ?_;rintro e W6 ⟨h3,rfl,hso,hb6⟩;have HX6:=Lib.hid (HX5.out.below hb6);have HX7:=Lib.hid (HX6.out.below (ball (.cells (sCells h3 s1) 33)));have HS7:=Lib.hid ((HS5.out.below hb6).below (ball (.cells (sCells h3 s1) 33)));have HN7:=Lib.hid ((HN5.out.below hb6).below (ball (.cells (sCells h3 s1) 33)));have HM7:Hid (Sb w W6.heap.size W6.heap.size h3 s1 (W6.alloc (.cells (sCells h3 s1) 33))):=Lib.hid ⟨Bq.new HX6.out.bx.bel _ _,by simp,(hso.sd HLS.out).below (ball _)⟩;clear hb6 hso HF2 HX5 HS5 HN5 HX6;unfold sCells at HX7 HS7 HN7 HM7;unfold sV sCells;go_upto_region 14 with fail
  obtain ⟨T2,hT2⟩:∃T,W6.heap.size=T:=⟨_,rfl⟩;generalize W6.alloc (.cells #[.slice h3.go s1.globals.length h3.gc,.slice h3.co s1.chans.length h3.cc,.slice h3.po s1.procs.length h3.pc,.int .i64 s1.last,.int .i64 s1.alone,.int .i64 s1.claim] 33)=W7 at HX7 HS7 HN7 HM7 ⊢;rw [hT2] at HM7 ⊢;clear hT2;have HA1:Hid (Calls Tryz.prog 16 #[sV h1 s1,sV h3 s1] W7 fun e w'=>e= .returned (.bool true)∧Below W7.heap.size W7 w'):=Lib.hid (by
   have:=same12H (B:=W7.heap.size) s1 s1 h1 h3 W7 (Nat.le_refl _) (HN7.out.sd.lift HN7.out.le) (HM7.out.sd.lift HM7.out.le);rw [sameB_yes rfl] at this;exact this)
  unfold sV sCells at HA1;go_wp2_with (first | (refine wpList_load_row rfl _ _ rfl T1 rfl _ (sCells h1 s1) _ _ HN7.out.bx.box Tryz.underlying33 rfl (Sb.info _ _) ?_) | (refine wpList_load_row rfl _ _ rfl T2 rfl _ (sCells h3 s1) _ _ HM7.out.bx.box Tryz.underlying33 rfl (Sb.info _ _) ?_));refine HA1.out.mono ?_;rintro e W8 ⟨rfl,hb8⟩;have HX8:=Lib.hid (HX7.out.below hb8);have HS8:=Lib.hid (HS7.out.below hb8);clear hb8 HA1 HX7 HS7 HN7 HM7;have HA2:Hid (Calls Tryz.prog 16 #[sV hs E.s,sV hw E.s] W8 fun e w'=>e= .returned (.bool true)∧Below W8.heap.size W8 w'):=Lib.hid (by
   have:=same12H (B:=W8.heap.size) E.s E.s hs hw W8 (Nat.le_refl _) (HX8.out.here.sd) (HS8.out.sd.lift HS8.out.le);rw [sameB_yes rfl] at this;exact this)
  unfold sV sCells at HA2;have s0:W8.cell? ⟨w.heap.size,7,none⟩=some (.slice hs.go E.s.globals.length hs.gc):=HX8.out.cell rfl;have s1':W8.cell? ⟨w.heap.size,8,none⟩=some (.slice hs.co E.s.chans.length hs.cc):=HX8.out.cell rfl;have s2:W8.cell? ⟨w.heap.size,9,none⟩=some (.slice hs.po E.s.procs.length hs.pc):=HX8.out.cell rfl;have s3:W8.cell? ⟨w.heap.size,10,none⟩=some (.int .i64 E.s.last):=HX8.out.cell rfl;have s4:W8.cell? ⟨w.heap.size,11,none⟩=some (.int .i64 E.s.alone):=HX8.out.cell rfl;have s5:W8.cell? ⟨w.heap.size,12,none⟩=some (.int .i64 E.s.claim):=HX8.out.cell rfl;go_wp2_with (refine wpList_load_row rfl _ _ rfl T rfl _ (sCells hw E.s) _ _ HS8.out.bx.box Tryz.underlying33 rfl (Sb.info _ _) ?_);refine HA2.out.mono ?_;rintro e W9 ⟨rfl,hb9⟩;have HX9:=Lib.hid (HX8.out.below hb9);have HS9:=Lib.hid (HS8.out.below hb9);clear hb9 HA2 HX8 HS8 s0 s1' s2 s3 s4 s5;have d1: (p != p)=false:=by simp
  have d2: (k != k)=false:=by simp
  have d3: (f != f)=false:=by simp
  have d4: (g != g)=false:=by simp
  go_wp2_with fail;go_roundw;case rel=>exact ⟨x+1,by go_num,by omega,by omega,HX9,HS9⟩
  case measure=>simp [intOf];omega
end Go.Proofs.YtbhgdlfndamklaaGreatDoor.exprStores
namespace Go.Proofs.YtbhgdlfndamklaaGreatDoor
open Go.ChangeShapes Go.WideShapes Go.ChangeAt Go.RowKit
set_option maxRecDepth 100000
variable {H:Type} {enc:TypeId × Value→H} {W:World} {base:Nat} {sp:Nat→Bool} {hd:Bool} {fuel:Nat}
theorem six_of {α:Type} {l:List α} (h:l.length=6):∃a b c d e f,l= [a,b,c,d,e,f]:=by
 match l,h with
 | [a,b,c,d,e,f],_=>exact ⟨a,b,c,d,e,f,rfl⟩
end Go.Proofs.YtbhgdlfndamklaaGreatDoor
namespace Go.Proofs.YtbhgdlfndamklaaGreatDoor
open Go.ChangeShapes Go.WideShapes Go.ChangeAt Go.RowKit
variable {H:Type} {enc:TypeId × Value→H} {W:World} {base:Nat} {sp:Nat→Bool} {hd:Bool} {fuel:Nat}
def SArgsB (m:ModelD):Prop:=∀p ∈ m.procs,∀l ∈ p.locs,∀t ∈ l.out,t.s.args.length≤17592186044416
theorem row_both {α:Type} {B:Nat} {o:Option Addr} {k:Nat} {R:Nat→Nat→α→Prop} {P:α→Prop} {l:List α} (h:Row B o k (fun g a x=>R g a x∧P x) l):Row B o k R l∧∀x ∈ l,P x:=by
 refine ⟨h.mono fun _ _ _ _ h=>h.1,fun x hx=> ?_⟩;obtain ⟨i,hi,rfl⟩:=List.mem_iff_getElem.1 hx;obtain ⟨g,off,-,-,h2⟩:=h.cell hi;exact h2.2
theorem opens_sliP {α:Type} {R:Nat→Nat→α→Prop} {P:α→Prop} {t e:TypeId} {kk bb:Nat} (ht:Tryz.prog.underlying t=some (.slice e)) (hk:Tryz.prog.cellsOf e=kk) (hk1:0 < kk) (hbb:Tryz.prog.bytesOf e=bb) (hb1:0 < bb) (he:Opens enc W base sp hd e (fun g a x=>R g a x∧P x)):
 Opens enc W base sp hd t (fun g a (l:List α)=>Sli W.heap.size W g a kk R l∧∀x ∈ l,P x):=by
 intro g off h;obtain ⟨l,o,c,h1,h2⟩:=opens_sli ht hk hk1 hbb hb1 he g off h;exact ⟨l,⟨o,c,h1,(row_both h2).1⟩,(row_both h2).2⟩
set_option maxRecDepth 100000 in
theorem opens_intsB:Opens enc W base sp hd 25 (fun g a (l:List Int)=>Sli W.heap.size W g a 1 (intAt W) l∧l.length≤17592186044416):=by
 rintro g off ⟨m,ds,y,hl,h,hw⟩;obtain ⟨o,n,c,hcs,hnb,-⟩:=open_rowS Tryz.underlying25 c_int.1 (by decide) c_int.2 h hw;obtain ⟨o',l,c',hcs',hr⟩:=open_sli Tryz.underlying25 c_int.1 (by decide) c_int.2 (by decide) (opens_int Tryz.underlying3) h hw;have hn:n=l.length:=by
  rw [hcs] at hcs';injection hcs' with e
  injection e
 subst hcs';have h2:reachBytes=140737488351232:=rfl;exact ⟨l,⟨o',c',hl 0 (by simp),hr⟩,by omega⟩
theorem opens_exprB:Opens enc W base sp hd 73 (fun g a x=>exprAt W.heap.size W g a x∧x.args.length≤17592186044416):=by
 intro g off h;have P:=open_parts Tryz.underlying73 h;obtain ⟨x0,h0⟩:=opens_int Tryz.underlying3 _ _ (P 0 _ rfl);obtain ⟨x1,h1⟩:=opens_int Tryz.underlying2 _ _ (P 1 _ rfl);obtain ⟨x2,h2⟩:=opens_int Tryz.underlying3 _ _ (P 2 _ rfl);obtain ⟨x3,h3⟩:=opens_int Tryz.underlying3 _ _ (P 3 _ rfl);obtain ⟨x4,h4⟩:=opens_int Tryz.underlying3 _ _ (P 4 _ rfl);obtain ⟨x5,h5⟩:=opens_var _ _ (P 5 _ rfl);obtain ⟨x6,h6,hb⟩:=opens_intsB _ _ (P 6 _ rfl);obtain ⟨x7,h7⟩:=opens_ints _ _ (P 7 _ rfl);exact ⟨⟨x0,x1,x2,x3,x4,x5,x6,x7⟩,⟨h0,h1,h2,h3,h4,h5,h6,h7⟩,hb⟩
theorem opens_stmtB:Opens enc W base sp hd 161 (fun g a s=>stmtAt W.heap.size W g a s∧s.args.length≤17592186044416):=by
 intro g off h;have P:=open_parts Tryz.underlying161 h;obtain ⟨x0,h0⟩:=opens_int Tryz.underlying3 _ _ (P 0 _ rfl);obtain ⟨x1,h1⟩:=opens_int Tryz.underlying3 _ _ (P 1 _ rfl);obtain ⟨x2,h2⟩:=opens_int Tryz.underlying3 _ _ (P 2 _ rfl);obtain ⟨x3,h3⟩:=opens_int Tryz.underlying3 _ _ (P 3 _ rfl);obtain ⟨x4,h4,hb⟩:=opens_intsB _ _ (P 4 _ rfl);obtain ⟨x5,h5⟩:=opens_ints _ _ (P 5 _ rfl);obtain ⟨x6,h6⟩:=opens_str Tryz.underlying9 _ _ (P 6 _ rfl);exact ⟨⟨x0,x1,x2,x3,x4,x5,x6⟩,⟨h0,h1,h2,h3,h4,h5,h6⟩,hb⟩
def TrB (t:TransD):Prop:=t.s.args.length≤17592186044416
theorem opens_transB:Opens enc W base sp hd 163 (fun g a t=>transAt W.heap.size W g a t∧TrB t):=by
 intro g off h;have P:=open_parts Tryz.underlying163 h;obtain ⟨x0,h0,hb⟩:=opens_stmtB _ _ (P 0 _ rfl);obtain ⟨x1,h1⟩:=opens_int Tryz.underlying3 _ _ (P 1 _ rfl);obtain ⟨x2,h2⟩:=opens_int Tryz.underlying3 _ _ (P 2 _ rfl);exact ⟨⟨x0,x1,x2⟩,⟨h0,h1,h2⟩,hb⟩
theorem opens_transsB:Opens enc W base sp hd 62 (fun g a (l:List TransD)=>Sli W.heap.size W g a 9 (transAt W.heap.size W) l∧∀t ∈ l,TrB t):=opens_sliP Tryz.underlying62 (by kernel_rfl) (by decide) (bb:=112) (by kernel_rfl) (by decide) opens_transB
def LcB (l:LocD):Prop:=∀t ∈ l.out,TrB t
theorem opens_locB:Opens enc W base sp hd 65 (fun g a l=>locAt W.heap.size W g a l∧LcB l):=by
 intro g off h;have P:=open_parts Tryz.underlying65 h;obtain ⟨x0,h0,hb⟩:=opens_transsB _ _ (P 0 _ rfl);obtain ⟨x1,h1⟩:=opens_escs _ _ (P 1 _ rfl);obtain ⟨x2,h2⟩:=opens_bool Tryz.underlying4 _ _ (P 2 _ rfl);obtain ⟨x3,h3⟩:=opens_bool Tryz.underlying4 _ _ (P 3 _ rfl);obtain ⟨x4,h4⟩:=opens_bool Tryz.underlying4 _ _ (P 4 _ rfl);obtain ⟨x5,h5⟩:=opens_bool Tryz.underlying4 _ _ (P 5 _ rfl);obtain ⟨x6,h6⟩:=opens_bool Tryz.underlying4 _ _ (P 6 _ rfl);exact ⟨⟨x0,x1,x2,x3,x4,x5,x6⟩,⟨h0,h1,h2,h3,h4,h5,h6⟩,hb⟩
theorem opens_locsB:Opens enc W base sp hd 66 (fun g a (l:List LocD)=>Sli W.heap.size W g a 7 (locAt W.heap.size W) l∧∀x ∈ l,LcB x):=opens_sliP Tryz.underlying66 (by kernel_rfl) (by decide) (bb:=56) (by kernel_rfl) (by decide) opens_locB
def PrB (p:ProcD):Prop:=∀l ∈ p.locs,LcB l
set_option maxRecDepth 100000 in
theorem opens_procB:Opens enc W base sp hd 68 (fun g a p=>procAt W.heap.size W g a p∧PrB p):=by
 intro g off h;have P:=open_parts Tryz.underlying68 h;obtain ⟨x0,h0⟩:=opens_str Tryz.underlying9 _ _ (P 0 _ rfl);obtain ⟨x1,h1⟩:=opens_int Tryz.underlying3 _ _ (P 1 _ rfl);obtain ⟨x2,h2⟩:=opens_tys _ _ (P 2 _ rfl);obtain ⟨x3,h3⟩:=opens_int64s _ _ (P 3 _ rfl);obtain ⟨x4,h4,hb⟩:=opens_locsB _ _ (P 4 _ rfl);obtain ⟨x5,h5⟩:=opens_int Tryz.underlying3 _ _ (P 5 _ rfl);obtain ⟨x6,h6⟩:=opens_int Tryz.underlying3 _ _ (P 6 _ rfl);obtain ⟨x7,h7⟩:=opens_int Tryz.underlying3 _ _ (P 7 _ rfl);obtain ⟨x8,h8⟩:=opens_int Tryz.underlying3 _ _ (P 8 _ rfl);obtain ⟨x9,h9⟩:=opens_int Tryz.underlying3 _ _ (P 9 _ rfl);exact ⟨⟨x0,x1,x2,x3,x4,x5,x6,x7,x8,x9⟩,⟨h0,h1,h2,h3,h4,h5,h6,h7,h8,h9⟩,hb⟩
end Go.Proofs.YtbhgdlfndamklaaGreatDoor
namespace Go.Proofs.YtbhgdlfndamklaaGreatDoor
open Go.ChangeShapes Go.WideShapes Go.ChangeAt Go.RowKit
set_option maxRecDepth 100000
variable {H:Type} {enc:TypeId × Value→H} {W:World} {base:Nat} {sp:Nat→Bool} {hd:Bool} {fuel:Nat}
theorem open_modelLB {l:List Value} {y:DataW H × List MemPlace} (hl:l.length=7) (h:DataW.trod enc Tryz.prog W base sp hd fuel 29 l=some y) (hw:Fits 29 y.1):∃h m,l= (mCells h m).toList∧MD W.heap.size W h m∧ArgsB m∧SArgsB m:=by
 have P:=open_fits Tryz.underlying29 h hw;obtain ⟨n0,y0,p0,w0⟩:=P 0 _ rfl;obtain ⟨n1,y1,p1,w1⟩:=P 1 _ rfl;obtain ⟨n2,y2,p2,w2⟩:=P 2 _ rfl;obtain ⟨n3,y3,p3,w3⟩:=P 3 _ rfl;obtain ⟨n4,y4,p4,w4⟩:=P 4 _ rfl;obtain ⟨n5,y5,p5,w5⟩:=P 5 _ rfl;obtain ⟨n6,y6,p6,w6⟩:=P 6 _ rfl;clear P;obtain ⟨o0,l0,c0,e0,r0⟩:=open_sli Tryz.underlying22 (kk:=2) (by kernel_rfl) (by decide) (bb:=16) (by kernel_rfl) (by decide) opens_ty p0 w0;obtain ⟨o1,l1,c1,e1,r1⟩:=open_sli Tryz.underlying23 c_int64.1 (by decide) c_int64.2 (by decide) (opens_int Tryz.underlying2) p1 w1;obtain ⟨o2,l2,c2,e2,r2⟩:=open_sli Tryz.underlying24 (kk:=2) (by kernel_rfl) (by decide) (bb:=32) (by kernel_rfl) (by decide) opens_shape p2 w2;obtain ⟨o3,l3,c3,e3,r3⟩:=open_sli Tryz.underlying25 c_int.1 (by decide) c_int.2 (by decide) (opens_int Tryz.underlying3) p3 w3;obtain ⟨o4,l4,c4,e4,r4⟩:=open_sli Tryz.underlying26 (kk:=10) (by kernel_rfl) (by decide) (bb:=136) (by kernel_rfl) (by decide) opens_procB p4 w4;obtain ⟨v5,e5,_,_⟩:=DataW.trod_int Tryz.underlying3 p5;obtain ⟨o6,l6,c6,e6,r6⟩:=open_sli Tryz.underlying27 (kk:=12) (by kernel_rfl) (by decide) (bb:=144) (by kernel_rfl) (by decide) opens_exprB p6 w6;have f0:=(one_cs (l:=l) (o:=0) (by omega) (by kernel_rfl)).symm.trans e0;have f1:=(one_cs (l:=l) (o:=1) (by omega) (by kernel_rfl)).symm.trans e1;have f2:=(one_cs (l:=l) (o:=2) (by omega) (by kernel_rfl)).symm.trans e2;have f3:=(one_cs (l:=l) (o:=3) (by omega) (by kernel_rfl)).symm.trans e3;have f4:=(one_cs (l:=l) (o:=4) (by omega) (by kernel_rfl)).symm.trans e4;have f5:=(one_cs (l:=l) (o:=5) (by omega) (by kernel_rfl)).symm.trans e5;have f6:=(one_cs (l:=l) (o:=6) (by omega) (by kernel_rfl)).symm.trans e6;clear e0 e1 e2 e3 e4 e5 e6 p0 p1 p2 p3 p4 p5 p6 w0 w1 w2 w3 w4 w5 w6 h hw;obtain ⟨a0,a1,a2,a3,a4,a5,a6,rfl⟩:=seven_of hl;simp only [List.getElem_cons_zero,List.getElem_cons_succ,List.cons.injEq,and_true] at f0 f1 f2 f3 f4 f5 f6;subst f0 f1 f2 f3 f4 f5 f6;exact ⟨⟨o0,c0,o1,c1,o2,c2,o3,c3,o4,c4,o6,c6⟩,⟨l0,l1,l2,l3,l4,v5,l6⟩,rfl,⟨r0,r1,r2,r3,(row_both r4).1,(row_both r6).1⟩,fun x hx=>(row_both r6).2 x hx,fun p hp l hl t ht=>(row_both r4).2 p hp l hl t ht⟩
end Go.Proofs.YtbhgdlfndamklaaGreatDoor
namespace Go.Proofs.YtbhgdlfndamklaaGreatDoor
open Go.ChangeShapes Go.WideShapes Go.ChangeAt Go.RowKit
set_option maxRecDepth 100000
variable {H:Type} {enc:TypeId × Value→H} {W:World} {base:Nat} {sp:Nat→Bool} {hd:Bool} {fuel:Nat}
theorem open_sliQ {α:Type} {R:Nat→Nat→α→Prop} {P:α→Prop} {t e:TypeId} {kk bb:Nat} {cs:List Value} {x:DataW H × List MemPlace} (ht:Tryz.prog.underlying t=some (.slice e)) (hk:Tryz.prog.cellsOf e=kk) (hk1:0 < kk) (hbb:Tryz.prog.bytesOf e=bb) (hb1:0 < bb) (he:Opens enc W base sp hd e (fun g a x=>R g a x∧P x))
 (h:DataW.trod enc Tryz.prog W base sp hd fuel t cs=some x) (hw:Fits t x.1):∃o l c,cs= [.slice o (List.length l) c]∧Row W.heap.size o kk R l∧l.length*bb≤140737488355328∧∀x ∈ l,P x:=by
 obtain ⟨o,n,c,hcs,hnb,-⟩:=open_rowS ht hk hk1 hbb h hw;obtain ⟨o',l,c',hcs',hr⟩:=open_sli ht hk hk1 hbb hb1 he h hw;have hn:n=l.length:=by
  rw [hcs] at hcs';injection hcs' with e
  injection e
 have h2:reachBytes=140737488351232:=rfl;exact ⟨o',l,c',hcs',(row_both hr).1,by rw [←hn];omega,(row_both hr).2⟩
theorem opens_sliQ {α:Type} {R:Nat→Nat→α→Prop} {P:α→Prop} {t e:TypeId} {kk bb:Nat} (ht:Tryz.prog.underlying t=some (.slice e)) (hk:Tryz.prog.cellsOf e=kk) (hk1:0 < kk) (hbb:Tryz.prog.bytesOf e=bb) (hb1:0 < bb) (he:Opens enc W base sp hd e (fun g a x=>R g a x∧P x)):
 Opens enc W base sp hd t (fun g a (l:List α)=>Sli W.heap.size W g a kk R l∧l.length*bb≤140737488355328∧∀x ∈ l,P x):=by
 rintro g off ⟨m,ds,y,hl,h,hw⟩;obtain ⟨o,l,c,hcs,hr,hb,hp⟩:=open_sliQ ht hk hk1 hbb hb1 he h hw;subst hcs;exact ⟨l,⟨o,c,hl 0 (by simp),hr⟩,hb,hp⟩
theorem opens_true {α:Type} {R:Nat→Nat→α→Prop} {t:TypeId} (h:Opens enc W base sp hd t R):Opens enc W base sp hd t (fun g a x=>R g a x∧True):=fun g off k=>by
 obtain ⟨x,hx⟩:=h g off k;exact ⟨x,hx,trivial⟩
theorem opens_msgQ:Opens enc W base sp hd 92 (fun g a (l:List Int)=>msgAt W.heap.size W g a l∧l.length*8≤140737488355328):=fun g off k=>by
 obtain ⟨x,hx,hb,-⟩:=opens_sliQ Tryz.underlying92 c_int64.1 (by decide) c_int64.2 (by decide) (opens_true (opens_int Tryz.underlying2)) g off k;exact ⟨x,hx,hb⟩
theorem opens_int64Q:Opens enc W base sp hd 23 (fun g a (l:List Int)=>Sli W.heap.size W g a 1 (intAt W) l∧l.length*8≤140737488355328):=fun g off k=>by
 obtain ⟨x,hx,hb,-⟩:=opens_sliQ Tryz.underlying23 c_int64.1 (by decide) c_int64.2 (by decide) (opens_true (opens_int Tryz.underlying2)) g off k;exact ⟨x,hx,hb⟩
def ChQ (c:ChanD):Prop:=c.queue.length*24≤140737488355328∧∀y ∈ c.queue,y.length*8≤140737488355328
theorem opens_chanQ:Opens enc W base sp hd 91 (fun g a c=>chanAt W.heap.size W g a c∧ChQ c):=by
 intro g off h;have P:=open_parts Tryz.underlying91 h;obtain ⟨x0,h0⟩:=opens_int Tryz.underlying3 _ _ (P 0 _ rfl);obtain ⟨x1,h1,hb⟩:=opens_sliQ Tryz.underlying89 (kk:=1) (by kernel_rfl) (by decide) (bb:=24) (by kernel_rfl) (by decide) opens_msgQ _ _ (P 1 _ rfl);exact ⟨⟨x0,x1⟩,⟨h0,h1⟩,hb⟩
theorem opens_processQ:Opens enc W base sp hd 84 (fun g a p=>processAt W.heap.size W g a p∧p.frame.length*8≤140737488355328):=by
 intro g off h;have P:=open_parts Tryz.underlying84 h;obtain ⟨x0,h0⟩:=opens_int Tryz.underlying3 _ _ (P 0 _ rfl);obtain ⟨x1,h1⟩:=opens_int Tryz.underlying3 _ _ (P 1 _ rfl);obtain ⟨x2,h2⟩:=opens_int Tryz.underlying3 _ _ (P 2 _ rfl);obtain ⟨x3,h3,hb⟩:=opens_int64Q _ _ (P 3 _ rfl);exact ⟨⟨x0,x1,x2,x3⟩,⟨h0,h1,h2,h3⟩,hb⟩
theorem open_stateLQ {l:List Value} {y:DataW H × List MemPlace} (hl:l.length=6) (h:DataW.trod enc Tryz.prog W base sp hd fuel 33 l=some y) (hw:Fits 33 y.1):∃h s,l= (sCells h s).toList∧SD W.heap.size W h s∧LensB s:=by
 have P:=open_fits Tryz.underlying33 h hw;obtain ⟨n0,y0,p0,w0⟩:=P 0 _ rfl;obtain ⟨n1,y1,p1,w1⟩:=P 1 _ rfl;obtain ⟨n2,y2,p2,w2⟩:=P 2 _ rfl;obtain ⟨n3,y3,p3,w3⟩:=P 3 _ rfl;obtain ⟨n4,y4,p4,w4⟩:=P 4 _ rfl;obtain ⟨n5,y5,p5,w5⟩:=P 5 _ rfl;clear P;obtain ⟨o0,l0,c0,e0,r0,b0,-⟩:=open_sliQ Tryz.underlying23 c_int64.1 (by decide) c_int64.2 (by decide) (opens_true (opens_int Tryz.underlying2)) p0 w0;obtain ⟨o1,l1,c1,e1,r1,b1,q1⟩:=open_sliQ Tryz.underlying30 (kk:=2) (by kernel_rfl) (by decide) (bb:=32) (by kernel_rfl) (by decide) opens_chanQ p1 w1;obtain ⟨o2,l2,c2,e2,r2,b2,q2⟩:=open_sliQ Tryz.underlying31 (kk:=4) (by kernel_rfl) (by decide) (bb:=48) (by kernel_rfl) (by decide) opens_processQ p2 w2;obtain ⟨v3,e3,_,_⟩:=DataW.trod_int Tryz.underlying3 p3;obtain ⟨v4,e4,_,_⟩:=DataW.trod_int Tryz.underlying3 p4;obtain ⟨v5,e5,_,_⟩:=DataW.trod_int Tryz.underlying3 p5;have f0:=(one_cs (l:=l) (o:=0) (by omega) (by kernel_rfl)).symm.trans e0;have f1:=(one_cs (l:=l) (o:=1) (by omega) (by kernel_rfl)).symm.trans e1;have f2:=(one_cs (l:=l) (o:=2) (by omega) (by kernel_rfl)).symm.trans e2;have f3:=(one_cs (l:=l) (o:=3) (by omega) (by kernel_rfl)).symm.trans e3;have f4:=(one_cs (l:=l) (o:=4) (by omega) (by kernel_rfl)).symm.trans e4;have f5:=(one_cs (l:=l) (o:=5) (by omega) (by kernel_rfl)).symm.trans e5;clear e0 e1 e2 e3 e4 e5 p0 p1 p2 p3 p4 p5 w0 w1 w2 w3 w4 w5 h hw;obtain ⟨a0,a1,a2,a3,a4,a5,rfl⟩:=six_of hl;simp only [List.getElem_cons_zero,List.getElem_cons_succ,List.cons.injEq,and_true] at f0 f1 f2 f3 f4 f5;subst f0 f1 f2 f3 f4 f5;exact ⟨⟨o0,c0,o1,c1,o2,c2⟩,⟨l0,l1,l2,v3,v4,v5⟩,rfl,⟨r0,r1,r2⟩,b0,b1,b2,q1,q2⟩
theorem open_envQ {v:Value} {r:Reach} {b0:Nat} {d:DataW H} {p:List MemPlace} (hv:Value.okWide Tryz.prog W r b0 36 v) (h:DataW.Trod enc Tryz.prog W base sp hd 36 v d p) (hw:Fits 36 d):∃h hs ao ac E,v= .agg (eCells h hs ao ac E)∧ED W.heap.size W h hs ao E∧ArgsB E.m∧SArgsB E.m∧LensB E.s:=by
 obtain ⟨cs,rfl,hsz⟩:=okWide_struct Tryz.underlying36 hv;obtain ⟨l⟩:=cs;have hC:Tryz.prog.cellsOf 36=16:=by kernel_rfl
 have hl:l.length=16:=hsz.trans hC;obtain ⟨fu,hf⟩:=h;have P:=open_fits Tryz.underlying36 hf hw;obtain ⟨n0,y0,p0,w0⟩:=P 0 _ rfl;obtain ⟨n1,y1,p1,w1⟩:=P 1 _ rfl;obtain ⟨n2,y2,p2,w2⟩:=P 2 _ rfl;obtain ⟨n3,y3,p3,w3⟩:=P 3 _ rfl;obtain ⟨n4,y4,p4,w4⟩:=P 4 _ rfl;clear P;have q0: (l.drop 0).take 7= (l.drop 0).take (Tryz.prog.cellsOf 29):=by rw [show Tryz.prog.cellsOf 29=7 by kernel_rfl]
 have q1: (l.drop 7).take 6= (l.drop 7).take (Tryz.prog.cellsOf 33):=by rw [show Tryz.prog.cellsOf 33=6 by kernel_rfl]
 obtain ⟨h1,m,e0,r0,hab,hsab⟩:=open_modelLB (l:=(l.drop 0).take 7) (by simp;omega) (by rw [q0];exact p0) w0;obtain ⟨h2,s,e1,r1,hlb⟩:=open_stateLQ (l:=(l.drop 7).take 6) (by simp;omega) (by rw [q1];exact p1) w1;obtain ⟨v2,e2,_,_⟩:=DataW.trod_int Tryz.underlying3 p2;obtain ⟨v3,e3,_⟩:=DataW.trod_bool Tryz.underlying4 p3;obtain ⟨o4,l4,c4,e4,r4⟩:=open_sli Tryz.underlying34 (kk:=1) (by kernel_rfl) (by decide) (bb:=1) (by kernel_rfl) (by decide) (opens_bool Tryz.underlying4) p4 w4;have f2:=(one_cs (l:=l) (o:=13) (by omega) (by kernel_rfl)).symm.trans e2;have f3:=(one_cs (l:=l) (o:=14) (by omega) (by kernel_rfl)).symm.trans e3;have f4:=(one_cs (l:=l) (o:=15) (by omega) (by kernel_rfl)).symm.trans e4;refine ⟨h1,h2,o4,c4,⟨m,s,v2,v3,l4⟩, ?_,⟨r0,r1,r4⟩,hab,hsab,hlb⟩;have hd0:l= (l.drop 0).take 7 ++ ((l.drop 7).take 6 ++ ([l[13]] ++ ([l[14]] ++ [l[15]]))):=by
  have g0: (l.drop 0).take 7 ++ l.drop 7=l:=by rw [List.drop_zero,List.take_append_drop]
  have g1: (l.drop 7).take 6 ++ l.drop 13=l.drop 7:=by
   have:=List.take_append_drop 6 (l.drop 7);rw [List.drop_drop] at this;exact this
  have g2:l.drop 13= [l[13]] ++ ([l[14]] ++ [l[15]]):=by
   rw [List.drop_eq_getElem_cons (by omega:13 < l.length),List.drop_eq_getElem_cons (by omega:14 < l.length),List.drop_eq_getElem_cons (by omega:15 < l.length),List.drop_eq_nil_of_le (by omega)];rfl
  rw [←g2,g1,g0]
 rw [f2,f3,f4,e0,e1] at hd0;rw [hd0];rfl
end Go.Proofs.YtbhgdlfndamklaaGreatDoor
namespace Go.Proofs.YtbhgdlfndamklaaGreatDoor
open Go.ChangeShapes Go.WideShapes Go.ChangeAt Go.RowKit
theorem own:ownKnob Tryz.prog.godebug=none:=by kernel_rfl
theorem laidOut:laidOutB Tryz.prog=true:=by kernel_rfl
abbrev laidL:List (String × DataW Unit):=Rows.exprStoresRow.laid
def deBruijn:List Int:=[0,1,56,2,57,49,28,3,61,58,42,50,38,29,17,4,62,47,59,36,45,43,51,22,53,39,33,30,24,18,12,5,63,55,48,27,60,41,37,16,46,35,44,21,52,32,23,11,54,26,40,15,34,20,31,10,25,14,19,9,13,8,7,6]
theorem env_of (W:World) (hL:laidMet Tryz.prog laidL W):TabW W:=by
 have h1:Lib.TabIs Tryz.prog W "internal/strconv.uint64pow10" .u64 Lib.pow10Tab:=
  Lib.tabIs_of_head (g:=0) (t:=174) (e:=131) (n:=20) (by kernel_rfl) (by kernel_rfl) Tryz.underlying174 Tryz.underlying131 (by kernel_rfl) (by kernel_rfl) hL.tail.tail
 have h2:Lib.TabIs Tryz.prog W "math/bits.deBruijn64tab" .u8 deBruijn:=
  Lib.tabIs_of_head (g:=2) (t:=201) (e:=5) (n:=64) (by kernel_rfl) (by kernel_rfl) Tryz.underlying201 Tryz.underlying5 (by kernel_rfl) (by kernel_rfl) hL.tail
 intro w' hb;have h3:=Joins.tab_stays (g:=2) (by kernel_rfl) h2 hb (Nat.le_refl _);exact ⟨Joins.tab_stays (g:=0) (by kernel_rfl) h1 hb (Nat.le_refl _),(World.var?_cell (by kernel_rfl) h3 15).trans (by kernel_rfl),(World.var?_cell (by kernel_rfl) h3 7).trans (by kernel_rfl)⟩
def lit1:DataW Unit→Value
 | .lit (.int k z)=> .int k z
 | _=>undef
def row1:DataW Unit→List Value
 | .agg l=>l.map lit1
 | _=>[]
noncomputable def laidWorld (os:Os):World:=
 let w0:=World.holding Tryz.prog os ⟨#[],#[],[]⟩
 let put (h:Array Obj) (g:Nat) (cs:Array Value):Array Obj:=h.modify g fun
  | .cells _ t frozen=> .cells cs t frozen
  | o=>o
 let h1:=put w0.heap 0 (row1 Rows.laid_internal_strconv_uint64pow10).toArray
 let h2:=put h1 1 (row1 Rows.laid_math_bits_deBruijn32tab).toArray
 let h3:=put h2 2 (row1 Rows.laid_math_bits_deBruijn64tab).toArray
 { w0 with heap:=h3 }
end Go.Proofs.YtbhgdlfndamklaaGreatDoor
