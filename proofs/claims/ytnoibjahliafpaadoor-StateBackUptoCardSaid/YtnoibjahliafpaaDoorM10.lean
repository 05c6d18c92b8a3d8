/- What a proctype uses: one part more is left. -/
import Derived.Test.YtnoibjahliafpaaDoorM09
import Derived.Deep.RegionLaw
import Derived.Deep.DrawnRows
import Derived.StillTailTactics
set_option linter.unusedVariables false
set_option linter.unusedSimpArgs false
namespace Go.Proofs.YtnoibjahliafpaaDoor
open Go.ChangeShapes Go.WideShapes Go.ChangeAt Go.RowKit
attribute [local go_sem ↓] Go.wp_at_zero Go.wp_at_succ
theorem news_one {W:World} {B:Nat} {x:Int} {fr:Nat × Nat} (hb:W.heap[B]? =some (.cells #[.int .i64 x] 3 fr)):∀j u,(leftV [x])[j]? =some u→W.cell? ((⟨B,0,none⟩:Addr).add j)=some u:=fun j u hu=>World.news_of_block hb j u hu
theorem one_left (x:Int):∀u ∈ leftV [x],u.oneCell'=true:=by
 intro u hu;simp [leftV] at hu;subst hu;rfl
def Pushed (B p sb:Nat) (h:MH) (m:ModelD) (seen left:List Int) (W W':World):Prop:=UJ B p sb h m seen left W'∧Gn B W W'
theorem push_put {B p sb g:Nat} {h:MH} {m:ModelD} {seen left left0:List Int} {lv v lv2:Value} {W W1 W2:World} {q:Int} (k:UK B p sb h m seen left lv W) (hb:Below W.heap.size W W1) (hv:v.ownBlock=none∨v.ownBlock=lv.ownBlock)
 (hg:W1.grownBy W2 v.ownBlock) (own2:W2.ownsRow B 3 1 lv2 (left0 ++ [q]).length (leftV (left0 ++ [q]))) (h2:lv2.ownBlock=some g) (hat:v.ownBlock=some g∨g=W1.heap.size):Pushed B p sb h m seen (left0 ++ [q]) W (W2.setCell ⟨p,8,none⟩ lv2):=by
 have k1:=k.below hb;have hsb:sb < W1.heap.size:=(k1.rs.lt sb rfl).2;have hne2:lv2.ownBlock≠some sb:=by
  rw [h2];intro e;injection e with e
  rcases hat with h3 | h3
  · rcases hv with h4 | h4
    · rw [h4] at h3;cases h3
    · rw [h4] at h3;exact k.ne (by rw [h3,e])
  · omega
 have:=k1.put hg hv own2 hne2;exact ⟨⟨lv2,this.1⟩,(Gn.of hb k.leW).trans this.2⟩
set_option maxHeartbeats 4000000 in
set_option maxRecDepth 100000 in
theorem uses1C {B p sb bx:Nat} {h:MH} {m:ModelD} {seen left:List Int} (q:Int) (W:World) (hj:UJ B p sb h m seen left W) (hx:W.heap[bx]? =some (.cells #[.pointer (some ⟨p,0,none⟩)] 115 (0,0))) (hn:left.length≤100000):
 Calls Tryd.prog 80 #[.int .i64 q,.pointer (some ⟨bx,0,none⟩)] W fun e W'=>e= .returned (.tuple #[])∧Pushed B p sb h m seen (left ++ [q]) W W':=by
 obtain ⟨lv,k⟩:=hj;obtain ⟨i0,hi,hz0,hz1,hz2⟩:=info_parts info_int;have HI:=Lib.hid (And.intro hi (And.intro hz0 (And.intro hz1 hz2)));have HK:=Lib.hid k;have l1:W.cell? ⟨bx,0,none⟩=some (.pointer (some ⟨p,0,none⟩)):=(cell_of_row _ _ _ _ _ _ hx).trans rfl;have l2:=k.c8;have f2:=k.f8;have HA:Hid (∀w1,Below W.heap.size W w1→w1.ownsRow B 3 1 lv left.length (leftV left)∧B≤w1.heap.size):=Lib.hid fun w1 hb=>⟨owns_below HK.out.row hb,Nat.le_trans HK.out.leW hb.size⟩
 have hxlt:bx < W.heap.size:=lt_of_block hx;have hplt:p < W.heap.size:=k.lt;have HX:=Lib.hid hx;clear hx;clear hi hz0 hz1 hz2 k;go_enter Tryd.func80,Tryd.ntmps80;go_wp2_with fail
 go_region_law
  (refine step_append_lies _ rfl (.tmp 7) (.tmp 9) 25 rfl B 3 i0 (.int .i64 0) 1 8 Tryd.underlying25 HI.out.1 HI.out.2.1 HI.out.2.2.1 HI.out.2.2.2 rfl (by decide) lv left.length (leftV left) (by simp [Act.eval,Act.put]) (HA.out _ ((ball _).drew)).1 ⟨W.heap.size,0,none⟩ 1 1 (leftV [q]) (by simp [Act.eval,Act.put]) rfl (news_one (heap_alloc_new _ _)) (one_left q) (by decide) (by unfold maxLen;omega) (by omega) (HA.out _ ((ball _).drew)).2 _ rfl ?_;intro g cap w2 hown hgrow hat hlt;have HP2:=Lib.hid (push_put (left0:=left) (q:=q) HK.out ((ball _).drew) (.inr rfl) hgrow (by rw [List.length_append];unfold leftV;rw [List.map_append];exact hown) rfl hat);have HB:Hid (w2.heap[bx]? =some (.cells #[.pointer (some ⟨p,0,none⟩)] 115 (0,0))):=Lib.hid ((hgrow.block bx (Nat.lt_of_lt_of_le hxlt (ball _).drew.size) (owns_neObj HK.out.row HX.out (by decide)).symm).trans (((ball _).drew.block _ hxlt).trans HX.out));have HC:Hid (∃cs,w2.heap[p]? =some (.cells cs 104 (0,0))∧cs[8]? =some lv):=Lib.hid ⟨_,(hgrow.block p (Nat.lt_of_lt_of_le hplt (ball _).drew.size) HK.out.lvp.symm).trans (((ball _).drew.block _ hplt).trans HK.out.kp),rfl⟩;obtain ⟨cs,hc1,hc2⟩:=HC.out;have k1:w2.cell? ⟨bx,0,none⟩=some (.pointer (some ⟨p,0,none⟩)):=(cell_of_row _ _ _ _ _ _ HB.out).trans rfl;have k2:w2.cell? ⟨p,8,none⟩=some lv:=(cell_of_row _ _ _ _ _ _ hc1).trans hc2;have k3:w2.frozen? ⟨p,8,none⟩=false:=frozen_of_row _ _ _ _ _ hc1;clear hown hgrow hat hc1 hc2;simp only [Act.put,List.setIfInBounds_toArray,List.set_cons_zero,List.set_cons_succ])
 all_goals (
  clear l1 l2 k1 k2 k3;go_wp2_with fail
  first | go_end0 | skip
  exact ⟨rfl,HP2.out⟩)
theorem run_uses1 (args:Array Value) (w:World): (callFunc 80 args).run Tryd.prog w= .ok (.enter 80 args) w:=by
 have h1: (Tryd.f80.name == "runtime.NumGoroutine")=false:=by kernel_rfl
 have h2:Tryd.f80.body.isNone=false:=by kernel_rfl
 simp only [beq_eq_false_iff_ne,ne_eq] at h1;have h3:¬Tryd.f80.body=none:=by
  intro e;rw [e] at h2;cases h2
 simp [callFunc,go_sem,Tryd.func80,h1,h3]
structure PK (B p sb bx:Nat) (h:MH) (m:ModelD) (seen:List Int) (w0:World) (left:List Int) (W:World):Prop where
 uj:UJ B p sb h m seen left W
 box:W.heap[bx]? =some (.cells #[.pointer (some ⟨p,0,none⟩)] 115 (0,0))
 gn:Gn B w0 W
theorem doer2 (B p sb bx:Nat) (h:MH) (m:ModelD) (seen:List Int) (w0:World):Doer B 80 #[.pointer (some ⟨bx,0,none⟩)] (fun l q=>l ++ [q]) (PK B p sb bx h m seen w0) (fun l _=>l.length≤100000) where
 call s W q k hs:=(uses1C q W k.uj k.box hs).mono fun e W' ⟨h1,h2,h3⟩=>⟨h1,⟨h2,h3.oth _ _ _ _ (by decide) (by decide) k.box,k.gn.trans h3⟩,h3.bel,h3.size,fun b cs fr hb=>h3.oth _ _ _ _ (by decide) (by decide) hb⟩
 below s W W' k hb:=by
  obtain ⟨⟨lv,k1⟩,k2,k3⟩:=k;exact ⟨⟨lv,k1.below hb⟩,(hb.block _ (lt_of_block k2)).trans k2,k3.trans (Gn.of hb k1.leW)⟩
 run:=run_uses1
theorem fold_push (l s:List Int):l.foldl (fun l q=>l ++ [q]) s=s ++ l:=by
 induction l generalizing s with
 | nil=>simp
 | cons x r ih=>rw [List.foldl_cons,ih,List.append_assoc];rfl
end Go.Proofs.YtnoibjahliafpaaDoor
namespace Go.Proofs.YtnoibjahliafpaaDoor
open Go.ChangeShapes Go.WideShapes Go.ChangeAt Go.RowKit
theorem zip_get {α β:Type} {l:List α} {r:List β} {k:Nat} (h1:k < l.length) (h2:k < r.length):∃h:k < (l.zip r).length,(l.zip r)[k]= (l[k],r[k]):=⟨by rw [List.length_zip];omega,List.getElem_zip⟩
set_option maxHeartbeats 1000000 in
set_option maxRecDepth 100000 in
theorem globalsC {B p:Nat} {h:MH} {m:ModelD} (w:World) (hk:Ck B w p h m):
 Calls Tryd.prog 44 #[.pointer (some ⟨p,0,none⟩)] w fun e w'=>e= .returned (.tuple #[.int .i64 (globalsL m).1,.bool (globalsL m).2])∧Below w.heap.size w w':=by
 obtain ⟨go,gc,io,ic,so,sc,co,cc,po,pc,eo,ec⟩:=h;have HK:=Lib.hid hk;have c0:w.cell? ⟨p,0,none⟩=some (.slice go m.globals.length gc):=hk.c0;have c1:w.cell? ⟨p,1,none⟩=some (.slice io m.init.length ic):=hk.c1;have l1:=hk.md.globals.1;have l2:=hk.md.init.1;clear hk;by_cases hbad:128 < m.globals.length
 · have HV:Hid (globalsL m= (-1,false)):=Lib.hid (if_pos (.inl hbad));have hd1:decide (128 < (m.globals.length:Int))=true:=by simp;omega
   go_enter Tryd.func44,Tryd.ntmps44;go_wp2_with fail;go_quiet (fail);go_wp2_with fail;go_ret2;exact ⟨retIB (by rw [HV.out]) (by rw [HV.out]),bdrew (Below.refl _ _) _⟩
 · have hd1:decide (128 < (m.globals.length:Int))=false:=by simp;omega
   by_cases hne:m.init.length=m.globals.length
   · have HV:Hid (globalsL m=idxB (bad fitZ (m.globals.zip m.init))):=Lib.hid (if_neg (by omega));have hn1: ((m.init.length:Int) != (m.globals.length:Int))=false:=by simp;omega
     have HNE:=Lib.hid hne;have i1: (m.init.length:Int)≤m.globals.length:=by omega
     have i2: (m.globals.length:Int)≤m.init.length:=by omega
     clear hbad hne;go_enter Tryd.func44,Tryd.ntmps44;go_wp2_with fail;go_quiet (fail);have HKD:=Lib.hid (HK.out.below (bdrew (Below.refl _ w) nq));have HBD:Hid (Below w.heap.size w (w.drewN nq)):=Lib.hid (bdrew (Below.refl _ w) nq);have d0: (w.drewN nq).cell? ⟨p,0,none⟩=some (.slice go m.globals.length gc):=HKD.out.c0;go_wp2_with fail;clear c0 c1 d0 hd1 hn1
     go_loopw [34] (fun iv W=>∃k:Nat,iv= .int .i64 k∧k≤m.globals.length∧Hid (∀j (hj:j < (m.globals.zip m.init).length),j < k→fitZ (m.globals.zip m.init)[j]=true)∧Hid (Below w.heap.size w W)) (fun iv _=>m.globals.length - (intOf iv).toNat)
     case atStart=>exact ⟨0,rfl,by omega,Lib.hid fun j _ h=>by omega,HBD⟩
     case round=>
      clear HKD HBD;obtain ⟨k,rfl,hk,HJ,HBW⟩:=hrel;have hk0: (0:Int)≤k:=by omega
      by_cases hlt:k < m.globals.length
      · have hlti: (k:Int) < m.globals.length:=by omega
        have hlt2:k < m.init.length:=by have:=HNE.out;omega
        have hlti2: (k:Int) < m.init.length:=by omega
        have HKr:=Lib.hid (HK.out.below HBW.out);obtain ⟨g,off,hog,hgB,t0,t1⟩:=HKr.out.md.globals.cell hlt;obtain ⟨g2,off2,hog2,hgB2,e2⟩:=HKr.out.md.init.cell hlt2;simp only at hog hog2;subst hog hog2;obtain ⟨hz,hzip⟩:=zip_get hlt hlt2;obtain ⟨⟨b,sg⟩,hbs⟩:∃t,m.globals[k]=t:=⟨_,rfl⟩;obtain ⟨v,hv⟩:∃v,m.init[k]=v:=⟨_,rfl⟩;rw [hbs] at t0 t1 hzip;rw [hv] at hzip;have HBAD:Hid (fitB b sg v=false→globalsL m= ((k:Int),false)):=Lib.hid fun h=>by
         rw [HV.out,bad_some hz (by rw [hzip];exact h) (fun j hj hjk=>HJ.out j hj hjk)];rfl
        have HGO:Hid (fitB b sg v=true→∀j (hj:j < (m.globals.zip m.init).length),j < k+1→fitZ (m.globals.zip m.init)[j]=true):=Lib.hid fun h j hj hjk=>by
         by_cases e:j=k
         · subst e;rw [hzip];exact h
         · exact HJ.out j hj (by omega)
        have e3:wr.cell? ⟨g2,off2+k,none⟩=some (.int .i64 v):=by
         have:=e2;unfold intAt at this;rw [Nat.mul_one,hv] at this;exact this
        have HC:Hid (∀o,(wr.alloc o).cell? ⟨g2,off2+k,none⟩=some (.int .i64 v)∧ (wr.alloc o).cell? ⟨p,1,none⟩=some (.slice (some ⟨g2,off2,none⟩) m.init.length ic)):=Lib.hid fun o=>⟨Lib.cell?_alloc_some _ e3,Lib.cell?_alloc_some _ HKr.out.c1⟩
        simp only at t0 t1;have hc1:=(HC.out (Obj.cells #[.int .i64 b,.bool sg] 70)).1;have hc2:=(HC.out (Obj.cells #[.int .i64 b,.bool sg] 70)).2;have HX:=Lib.hid (Bx.new wr #[.int .i64 b,.bool sg] 70);clear hbs hv e2 hz hzip;go_wp2_with fail;generalize wr.alloc (Obj.cells #[.int .i64 b,.bool sg] 70)=W at hc1 hc2 HX ⊢;have x1:W.cell? ⟨wr.heap.size,0,none⟩=some (.int .i64 b):=HX.out.cell rfl;have x2:W.cell? ⟨wr.heap.size,1,none⟩=some (.bool sg):=HX.out.cell rfl;go_still_tail 9,(by kernel_rfl);change wpList _ _ _ _ _ W.drew;have HWD:Hid (Below w.heap.size w W.drew):=Lib.hid (HBW.out.trans ((HX.out.bel.drew).mono HBW.out.size));generalize W.drew=W2 at HWD ⊢;clear x1 x2 hc1 hc2 t0 t1 e3;go_wp2_with fail;refine (fitsC b sg v W2).mono ?_;rintro e W3 ⟨rfl,hb3⟩;have HW3:=Lib.hid (HWD.out.trans (hb3.mono HWD.out.size));clear hb3;obtain ⟨u,hu⟩:∃u,fitB b sg v=u:=⟨_,rfl⟩;rw [hu];have HU:=Lib.hid hu;clear hu;cases u
        · have HZ:=Lib.hid (HBAD.out HU.out);go_wp2_with fail;go_ret2;exact ⟨retIB (by rw [HZ.out]) (by rw [HZ.out]),HW3.out⟩
        · have HZ:=Lib.hid (HGO.out HU.out);go_wp2_with fail;go_roundw;case rel=>exact ⟨k+1,by go_num,by omega,HZ,HW3⟩
          case measure=>simp [intOf];omega
      · have hlti:¬ (k:Int) < m.globals.length:=by omega
        have HZ:Hid (globalsL m= (0,true)):=Lib.hid (by rw [HV.out,bad_none fun j hj=>HJ.out j hj (by rw [List.length_zip] at hj;omega)];rfl);go_wp2_with fail;go_ret2;exact ⟨retIB (by rw [HZ.out]) (by rw [HZ.out]),HBW.out⟩
   · have HV:Hid (globalsL m= (-1,false)):=Lib.hid (if_pos (.inr hne));have hn1: ((m.init.length:Int) != (m.globals.length:Int))=true:=by rw [bne_iff_ne];omega
     clear hbad hne;go_enter Tryd.func44,Tryd.ntmps44;go_wp2_with fail;go_quiet (fail);go_wp2_with fail;go_ret2;exact ⟨retIB (by rw [HV.out]) (by rw [HV.out]),bdrew (Below.refl _ _) _⟩
end Go.Proofs.YtnoibjahliafpaaDoor
namespace Go.Proofs.YtnoibjahliafpaaDoor
open Go.ChangeShapes Go.WideShapes Go.ChangeAt Go.RowKit
set_option maxHeartbeats 2000000 in
set_option maxRecDepth 100000 in
theorem channelsC {B p:Nat} {h:MH} {m:ModelD} (w:World) (hk:Ck B w p h m):
 Calls Tryd.prog 45 #[.pointer (some ⟨p,0,none⟩)] w fun e w'=>e= .returned (.tuple #[.int .i64 (channelsL m).1,.bool (channelsL m).2])∧Below w.heap.size w w':=by
 obtain ⟨go,gc,io,ic,so,sc,co,cc,po,pc,eo,ec⟩:=h;have HK:=Lib.hid hk;have c2:w.cell? ⟨p,2,none⟩=some (.slice so m.shapes.length sc):=hk.c2;have c3:w.cell? ⟨p,3,none⟩=some (.slice co m.chans.length cc):=hk.c3;have l1:=hk.md.shapes.1;have l2:=hk.md.chans.1;clear hk;by_cases hbad:32 < m.shapes.length∨32 < m.chans.length
 · have HV:Hid (channelsL m= (-1,false)):=Lib.hid (if_pos hbad);go_enter Tryd.func45,Tryd.ntmps45;go_wp2
   all_goals first | (exfalso;omega) | (go_ret2;exact ⟨retIB (by rw [HV.out]) (by rw [HV.out]),Below.refl _ _⟩)
 · have HV:Hid (channelsL m=match bad shapeB m.shapes with | some i=>((i:Int),false) | none=>idxB (bad (chanB m) m.chans)):=Lib.hid (if_neg hbad);have g1:¬32 < m.shapes.length:=fun h=>hbad (.inl h)
   have g2:¬32 < m.chans.length:=fun h=>hbad (.inr h)
   clear hbad;go_enter Tryd.func45,Tryd.ntmps45;go_wp2_with fail;clear c2 c3
   go_loopw [32] (fun iv W=>∃k:Nat,iv= .int .i64 k∧k≤m.shapes.length∧Hid (∀j (hj:j < m.shapes.length),j < k→shapeB m.shapes[j]=true)∧Hid (Below w.heap.size w W)) (fun iv _=>m.shapes.length - (intOf iv).toNat)
   case atStart=>exact ⟨0,rfl,by omega,Lib.hid fun j _ h=>by omega,Lib.hid (Below.refl _ _)⟩
   case round=>
    obtain ⟨k,rfl,hk,HJ,HBW⟩:=hrel;have hk0: (0:Int)≤k:=by omega
    by_cases hlt:k < m.shapes.length
    · have hlti: (k:Int) < m.shapes.length:=by omega
      have HKr:=Lib.hid (HK.out.below HBW.out);obtain ⟨g,off,hog,hgB,t0,fo,fc,t1,hF⟩:=HKr.out.md.shapes.cell hlt;simp only at hog;subst hog;have HBAD:Hid (shapeB m.shapes[k]=false→channelsL m= ((k:Int),false)):=Lib.hid fun h=>by
       rw [HV.out,bad_some hlt h (fun j hj hjk=>HJ.out j hj hjk)]
      have HGO:Hid (shapeB m.shapes[k]=true→∀j (hj:j < m.shapes.length),j < k+1→shapeB m.shapes[j]=true):=Lib.hid fun h j hj hjk=>by
       by_cases e:j=k
       · subst e;exact h
       · exact HJ.out j hj (by omega)
      obtain ⟨⟨room,F⟩,hs⟩:∃s,m.shapes[k]=s:=⟨_,rfl⟩;rw [hs] at t0 t1 hF HBAD HGO;simp only at t0 t1 hF;have hFl:=hF.1;have HF:=Lib.hid hF;clear hs hF;have HX:=Lib.hid (Bx.new wr #[.int .i64 room,.slice fo F.length fc] 110);by_cases hh:room < 0∨16 < room∨F.length < 1∨8 < F.length
      · have HZ:=Lib.hid (HBAD.out (by unfold shapeB;rw [decide_eq_true (by exact hh)];rfl));go_wp2
        all_goals first | (exfalso;omega) | (go_ret2;exact ⟨retIB (by rw [HZ.out]) (by rw [HZ.out]),HBW.out.trans (HX.out.bel.mono HBW.out.size)⟩)
      · have HSH:Hid (shapeB ⟨room,F⟩=F.all tyP):=Lib.hid (by unfold shapeB;rw [decide_eq_false (by exact hh)];simp);have a1:¬room < 0:=fun h=>hh (.inl h)
        have a2:¬16 < room:=fun h=>hh (.inr (.inl h))
        have a3:¬F.length < 1:=fun h=>hh (.inr (.inr (.inl h)))
        have a4:¬8 < F.length:=fun h=>hh (.inr (.inr (.inr h)))
        clear hh;go_wp2_with fail;have HB1:Hid (Below wr.heap.size wr (wr.alloc (Obj.cells #[.int .i64 room,.slice fo F.length fc] 110))):=Lib.hid (ball _);generalize wr.alloc (Obj.cells #[.int .i64 room,.slice fo F.length fc] 110)=W1 at HX HB1 ⊢;clear t0 t1
        go_loopw [61] (fun iv W=>∃i:Nat,iv= .int .i64 i∧i≤F.length∧Hid (∀j (hj:j < F.length),j < i→tyP F[j]=true)∧Hid (Below wr.heap.size wr W)) (fun iv _=>F.length - (intOf iv).toNat)
        case atStart=>exact ⟨0,rfl,by omega,Lib.hid fun j _ h=>by omega,HB1⟩
        case round=>
         rename_i wr0
         obtain ⟨i,rfl,hi,HI,HBI⟩:=hrel;have hi0: (0:Int)≤i:=by omega
         by_cases hli:i < F.length
         · have hlii: (i:Int) < F.length:=by omega
           have HFr:=Lib.hid (HF.out.mono fun _ _ _ hg=>tyAt.below (HBI.out.mono (by have:=HKr.out.le;have:=HKr.out.lt;omega)) hg);obtain ⟨gf,offf,hof,hgf,u0,u1⟩:=HFr.out.cell hli;subst hof;obtain ⟨⟨b,sg⟩,hbs⟩:∃t,F[i]=t:=⟨_,rfl⟩;rw [hbs] at u0 u1;simp only at u0 u1;have HBS:=Lib.hid hbs;have HX2:=Lib.hid (Bx.new wr #[.int .i64 b,.bool sg] 70);clear hbs;go_wp2_with fail;refine (typeC b sg _).mono ?_;rintro e W3 ⟨rfl,hb3⟩;have HB3:=Lib.hid (HBI.out.trans ((HX2.out.bel.trans (hb3.mono HX2.out.bel.size)).mono HBI.out.size));clear hb3 HX2;obtain ⟨u,hu⟩:∃u,tyB b sg=u:=⟨_,rfl⟩;rw [hu];have HU:=Lib.hid hu;clear hu;cases u
           · have HZ:=Lib.hid (HBAD.out (by rw [HSH.out];exact all_bad hli (by rw [HBS.out];exact HU.out)));go_wp2_with fail;go_ret2;exact ⟨retIB (by rw [HZ.out]) (by rw [HZ.out]),HBW.out.trans (HB3.out.mono HBW.out.size)⟩
           · go_wp2_with fail;go_roundw;case rel=>exact ⟨i+1,by go_num,by omega,Lib.hid fun j hj hji=>by
              by_cases e:j=i
              · subst e;rw [HBS.out];exact HU.out
              · exact HI.out j hj (by omega),HB3⟩
             case measure=>simp [intOf];omega
         · have hlii:¬ (i:Int) < F.length:=by omega
           have HZ:=Lib.hid (HGO.out (by rw [HSH.out];exact all_of fun j hj=>HI.out j hj (by omega)));have HBE:=Lib.hid (HBW.out.trans (HBI.out.mono HBW.out.size));go_wp2_with fail;go_roundw;case rel=>exact ⟨k+1,by go_num,by omega,HZ,HBE⟩
           case measure=>simp [intOf];omega
    · have hlti:¬ (k:Int) < m.shapes.length:=by omega
      have HV2:Hid (channelsL m=idxB (bad (chanB m) m.chans)):=Lib.hid (by rw [HV.out,bad_none fun j hj=>HJ.out j hj (by omega)]);have HKr:=Lib.hid (HK.out.below HBW.out);have d3:wr.cell? ⟨p,3,none⟩=some (.slice co m.chans.length cc):=HKr.out.c3;clear HV HJ;go_wp2_with fail;clear d3
      go_loop [77] (fun iv=>∃k:Nat,iv= .int .i64 k∧k≤m.chans.length∧Hid (∀j (hj:j < m.chans.length),j < k→chanB m m.chans[j]=true)) (fun iv=>m.chans.length - (intOf iv).toNat)
      case atStart=>exact ⟨0,rfl,by omega,Lib.hid fun j _ h=>by omega⟩
      case round=>
       obtain ⟨i,rfl,hi,HI⟩:=hrel;have hi0: (0:Int)≤i:=by omega
       by_cases hli:i < m.chans.length
       · have hlii: (i:Int) < m.chans.length:=by omega
         obtain ⟨g,off,hog,hgB,t0⟩:=HKr.out.md.chans.cell hli;simp only at hog;subst hog;obtain ⟨q,hq⟩:∃q,m.chans[i]=q:=⟨_,rfl⟩;have e0:wr.cell? ⟨g,off+i,none⟩=some (.int .i64 q):=by
          have:=t0;unfold intAt at this;rw [Nat.mul_one,hq] at this;exact this
         have d2:wr.cell? ⟨p,2,none⟩=some (.slice so m.shapes.length sc):=HKr.out.c2;have HBAD:Hid (¬ (0≤q∧q < m.shapes.length)→channelsL m= ((i:Int),false)):=Lib.hid fun h=>by
          rw [HV2.out,bad_some hli (by rw [hq];exact decide_eq_false h) (fun j hj hjk=>HI.out j hj hjk)];rfl
         have HGO:Hid (0≤q∧q < m.shapes.length→∀j (hj:j < m.chans.length),j < i+1→chanB m m.chans[j]=true):=Lib.hid fun h j hj hjk=>by
          by_cases e:j=i
          · subst e;rw [hq];exact decide_eq_true h
          · exact HI.out j hj (by omega)
         clear t0 hq;by_cases hh:0≤q∧q < m.shapes.length
         · have HZ:=Lib.hid (HGO.out hh);obtain ⟨h1,h2⟩:=hh;go_wp2_with fail;go_round;case rel=>exact ⟨i+1,by go_num,by omega,HZ⟩
           case measure=>simp [intOf];omega
         · have HZ:=Lib.hid (HBAD.out hh);go_wp2
           all_goals first | (exfalso;omega) | (go_ret2;exact ⟨retIB (by rw [HZ.out]) (by rw [HZ.out]),HBW.out⟩)
       · have hlii:¬ (i:Int) < m.chans.length:=by omega
         have HZ:Hid (channelsL m= (0,true)):=Lib.hid (by rw [HV2.out,bad_none fun j hj=>HI.out j hj (by omega)];rfl);go_wp2_with fail;go_ret2;exact ⟨retIB (by rw [HZ.out]) (by rw [HZ.out]),HBW.out⟩
end Go.Proofs.YtnoibjahliafpaaDoor
