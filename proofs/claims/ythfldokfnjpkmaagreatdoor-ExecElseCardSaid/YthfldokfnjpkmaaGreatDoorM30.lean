/- Expressions are reckoned one by one. -/
import Derived.Test.YthfldokfnjpkmaaGreatDoorM21
import Derived.Test.YthfldokfnjpkmaaGreatDoorM15
import Derived.StillTail
import Derived.Test.YthfldokfnjpkmaaGreatDoorM14
import Derived.Test.YthfldokfnjpkmaaGreatDoorM29
import Derived.Maps.AppendAt
set_option linter.unusedVariables false
set_option linter.unusedSimpArgs false
namespace Go.Proofs.YthfldokfnjpkmaaGreatDoor
open Go.ChangeShapes Go.WideShapes Go.ChangeAt Go.RowKit
theorem ones1_get (l:List Int) (i:Nat) (h:i < l.length) (h2:i < (ones1 l).length): (ones1 l)[i]= (l[i],1):=List.getElem_map (fun x=>(x,1))
structure AllP (r:List Int × Int) (n:Nat) (w:World) (e:Ending) (w':World):Prop where
 bel:Below w.heap.size w w'
 no:r.2≠0→e= .returned (.tuple #[.slice none 0 0,.int .i64 r.2])
 yes:r.2=0→e= .returned (.tuple #[.slice (some ⟨w.heap.size,0,none⟩) n n,.int .i64 0])∧r.1.length=n∧w'.ownsRow w.heap.size 2 1 (.slice (some ⟨w.heap.size,0,none⟩) n n) n (leftV r.1)
set_option maxHeartbeats 4000000 in
set_option maxRecDepth 100000 in
theorem allC {B pe:Nat} {h:MH} {hs:SH} {ao:Option Addr} {ac:Nat} {E:EnvD} {ev:Int→Int × Int} {N:Nat} (args:List Int) (o1:Option Addr) (p1:Nat) (w:World) (hk:Ek B w pe h hs ao ac E) (he:EvC B pe h hs ao ac E ev N) (h1:Row B o1 1 (intAt w) args) (hn:args.length*8≤140737488355328) (hin:∀x ∈ args,0≤x∧x < N):
 Calls Tryz.prog 80 #[.pointer (some ⟨pe,0,none⟩),.slice o1 args.length p1] w fun e w'=>AllP (allF ev args) args.length w e w':=by
 have HK:=Lib.hid hk;have HE:=Lib.hid he;have HR:=Lib.hid h1;have HIN:=Lib.hid hin;have hB:B≤w.heap.size:=hk.leW;have l1:=h1.1;have HZL:Hid ((ones1 args).length=args.length):=Lib.hid (by unfold ones1;rw [List.length_map]);obtain ⟨i3,hi3,hz0,hz1,hz2⟩:=info_parts info_int64;have HI:=Lib.hid (And.intro hi3 (And.intro hz0 (And.intro hz1 hz2)));have HL1:Hid (args.length≤maxLen):=Lib.hid (by unfold maxLen;omega);have HL2:Hid (i3.bytes*args.length≤281474976710656):=Lib.hid (by rw [HI.out.2.2.2];omega);clear hi3 hz0 hz1 hz2 hk he h1 hin;go_enter Tryz.func80,Tryz.ntmps80;go_wp2_with (refine wpList_make_full _ rfl _ _ 23 rfl w.heap.size 2 i3 (.int .i64 0) 1 Tryz.underlying23 HI.out.1 HI.out.2.1 HI.out.2.2.1 .i64 .i64 _ _ args.length rfl rfl rfl rfl HL2.out HL1.out (Nat.le_refl _) ?_);intro w2 hown hgrow;have HWJ:=Lib.hid (WJ.start (ev:=ev) HZL.out hown hgrow);clear hown hgrow;go_wp2_with fail
 go_loopw [16] (fun iv W=>∃i:Nat,iv= .int .i64 i∧i≤args.length∧Hid (WJ w ev (ones1 args) args.length i W)) (fun iv _=>args.length - (intOf iv).toNat)
 case atStart=>exact ⟨0,rfl,by omega,HWJ⟩
 case round=>
  clear HWJ;obtain ⟨i,rfl,hi,HJ⟩:=hrel;have hi0: (0:Int)≤i:=by omega
  by_cases hlt:i < args.length
  · have hlti: (i:Int) < args.length:=by omega
    obtain ⟨g1,off1,ho1,hg1,e1⟩:=(HR.out.mono fun _ _ _ hg=>intAt.below (HJ.out.bel.mono hB) hg).cell hlt;subst ho1;obtain ⟨x,hx⟩:∃q,args[i]=q:=⟨_,rfl⟩;have hzl:i < (ones1 args).length:=by rw [HZL.out];exact hlt
    have HZ:Hid ((ones1 args)[i]= (x,1)):=Lib.hid ((ones1_get args i hlt hzl).trans (by rw [hx]));have hxr:=HIN.out x (hx ▸ List.getElem_mem hlt);rw [hx] at e1;unfold intAt at e1;rw [Nat.mul_one] at e1;clear hx;have HEC:=Lib.hid (HE.out x wr hxr.1 hxr.2 (HK.out.below HJ.out.bel));obtain ⟨⟨v,er⟩,hev⟩:∃q,ev x=q:=⟨_,rfl⟩;rw [hev] at HEC;simp only at HEC;go_wp2_with fail;refine HEC.out.mono ?_;rintro e W1 ⟨rfl,hb1⟩;have HJ1:=Lib.hid (HJ.out.below hb1);clear hb1 e1 HEC;by_cases h0:er=0
    · have hd0: (er != 0)=false:=by rw [bne_eq_false_iff_eq];exact h0
      subst h0;obtain ⟨⟨cv,hcv⟩,hfz⟩:=HJ1.out.cell HZL.out hzl;have HS:Hid (WJ w ev (ones1 args) args.length (i+1) (W1.setCell ⟨w.heap.size,i,none⟩ (.int .i64 v))):=Lib.hid (HJ1.out.set hzl (congrArg Prod.snd HZ.out) (by rw [HZ.out];exact hev));go_wp2_with fail;go_roundw;case rel=>exact ⟨i+1,by go_num,by omega,HS⟩
      case measure=>simp [intOf];omega
    · have hd0: (er != 0)=true:=by rw [bne_iff_ne];exact h0
      have HV:Hid (allF ev args= ([],er)):=Lib.hid (by
       have:=wanted_bad hzl HJ1.out.ok (congrArg Prod.snd HZ.out) (by rw [HZ.out,hev];exact h0);unfold allF;rw [this,HZ.out,hev])
      go_wp2_with fail;go_ret2;exact ⟨HJ1.out.bel,fun _=>by rw [HV.out];rfl,fun h=>by rw [HV.out] at h;exact absurd h h0⟩
  · have hlti:¬ (i:Int) < args.length:=by omega
    have hie:i=args.length:=by omega
    subst hie;have HV:Hid (allF ev args= ((ones1 args).map (wantG ev),0)):=Lib.hid (wanted_ok fun j hj h=>HJ.out.ok j hj (by have:=HZL.out;omega) h);have HL:Hid ((allF ev args).1.length=args.length):=Lib.hid (by rw [HV.out,List.length_map];exact HZL.out);go_wp2_with fail;go_ret2;refine ⟨HJ.out.bel,fun h=>absurd (by rw [HV.out]) h,fun _=>⟨rfl,HL.out, ?_⟩⟩;have hr:=HJ.out.row;have e:wantI ev (ones1 args) args.length= (allF ev args).1:=by
     rw [HV.out,←HZL.out];exact wantI_full _ _
    rw [e] at hr;exact hr
end Go.Proofs.YthfldokfnjpkmaaGreatDoor
namespace Go.Proofs.YthfldokfnjpkmaaGreatDoor
open Go.ChangeShapes Go.WideShapes Go.ChangeAt Go.RowKit
section
variable {P:Program} {ops:Array Oper} {md:Region.Mode} {C:World→Prop} {n:Nat} {L:Array Bool→Act→Prop}
def HeadQ (P:Program) (md:Region.Mode) (ops:Array Oper) (C:World→Prop) (n:Nat) (L:Array Bool→Act→Prop):Nat→Array Bool→Act→Prop
 | 0,listed,a=>L listed a
 | f+1,listed,a=>Region.ready md ops listed≠ []∧∀i,i ∈ Region.ready md ops listed→i < n∧qOp P ops C i (HeadQ P md ops C n L f (listed.setIfInBounds i true)) a
theorem HeadQ.any {g:Nat} {Q:Exit→Act→World→Prop} (hL:∀listed a w,C w→L listed a→wpAny P md ops Q g listed a w):∀ (f:Nat) (listed:Array Bool) (a:Act) (w:World),C w→HeadQ P md ops C n L f listed a→wpAny P md ops Q (f+g) listed a w
 | 0,listed,a,w,hw,h=>by rw [Nat.zero_add];exact hL _ _ _ hw h
 | f+1,listed,a,w,hw,h=>by
   rw [show f+1+g= (f+g)+1 by omega];exact ⟨fun h0=>absurd h0 h.1,fun i hi=>wpOp_of_qOp hw (fun a' w' hw' h'=>HeadQ.any hL f _ a' w' hw' h') (h.2 i hi).2⟩
theorem HeadQ.first (hsel:Region.noSelect ops=true) (hs:Region.sinkB md ops n=true) (hc:Region.chainB md ops n=true) (hn:n < ops.size) (hend:∀listed a,L listed a→∀j,j ∈ Region.ready md ops listed→n≤j) {i:Nat} {oi:Oper} {v:Value} (hi:ops[i]? =some oi) (hin:i < n):
 ∀ (f:Nat) (listed:Array Bool) (a:Act),HeadInv md ops n listed→i ∈ Region.ready md ops listed→
  (∀j oj,ops[j]? =some oj→j≠i→listed.getD j true=false→ (∀e ∈ oj.after,Region.binds md e=true→e.on≠i)→oi.apart ops oj=true)→
  YieldsIn P ops C oi v a→HeadQ P md ops C n L f (listed.setIfInBounds i true) (a.put oi.dst v)→HeadQ P md ops C n L (f+1) listed a:=by
 intro f
 induction f with
 | zero=>
   intro listed a inv hr _ hy H;refine ⟨List.ne_nil_of_mem hr,fun j hj=> ?_⟩;have hjn:j < n:=Nat.lt_of_not_le fun h=>tail_waits hs hc hn inv _ i rfl hin (mem_ready.1 hr).1 j h hj
   refine ⟨hjn, ?_⟩;by_cases e:j=i
   · subst e;exact hy.qOp hi H
   · have:=hend _ _ H j (ready_mono hj e);omega
 | succ f ih=>
   intro listed a inv hr hfree hy H;have hun:=(mem_ready.1 hr).1;refine ⟨List.ne_nil_of_mem hr,fun j hj=> ?_⟩;have hjn:j < n:=Nat.lt_of_not_le fun h=>tail_waits hs hc hn inv _ i rfl hin hun j h hj
   refine ⟨hjn, ?_⟩;by_cases e:j=i
   · subst e;exact hy.qOp hi H
   obtain ⟨hjun,oj,hoj,hall⟩:=mem_ready.1 hj;have hnot:∀e ∈ oj.after,Region.binds md e=true→e.on≠i:=fun e he hb heq=>by
    have h1:=hall e he hb;rw [heq,getD_both hun] at h1;cases h1
   have h2:=qOp_put hoj (hfree j oj hoj e hjun hnot) (fun cs b=>Region.noSelect_spec hsel i oi cs b hi) (fun cs b=>Region.noSelect_spec hsel j oj cs b hoj) hy (H.2 j (ready_mono hj e)).2;refine qOp_mono (fun a' h3=>ih (listed.setIfInBounds j true) a' (inv.set hj hjn) (ready_mono hr (Ne.symm e)) (fun k ok hk hki hku hno=>hfree k ok hk hki ?_ hno) h3.1 ?_) h2
   · by_cases ejk:j=k
     · subst ejk;exact hjun
     · rw [getD_set_ne true ejk] at hku;exact hku
   · rw [Array.setIfInBounds_comm _ _ e];exact h3.2
theorem HeadQ.lex {g:Nat} {Lq:Act→Prop} (hsel:Region.noSelect ops=true) (hs:Region.sinkB md ops n=true) (hc:Region.chainB md ops n=true) (hn:n < ops.size):
 ∀ (l:List Oper) (k:Nat) (listed:Array Bool) (a:Act),(∀j,j < l.length→l[j]? =ops[k+j]?)→k+l.length=n→HeadInv md ops n listed→Region.lexHead md ops g l.length k listed=true→wpQuiet P ops C Lq l a→
  HeadQ P md ops C n (fun listed' a'=>Region.seqB md ops g n listed'=true∧Lq a') l.length listed a
 | [],k,listed,a,_,hk,_,hB,h=>by
   obtain rfl:k=n:=by simpa using hk
   exact ⟨by simpa [Region.lexHead] using hB,h⟩
 | o :: l,k,listed,a,hl,hk,inv,hB,h=>by
   have h0:ops[k]? =some o:=(hl 0 (by simp)).symm;simp only [List.length_cons,Region.lexHead,Bool.and_eq_true] at hB hk;have hr:k ∈ Region.ready md ops listed:=by simpa using hB.1.1
   have hkn:k < n:=by omega
   have hq:qOp P ops C k (wpQuiet P ops C Lq l) a:=by unfold qOp;simp only [h0];exact h
   obtain ⟨v,hy,hK⟩:=yieldsIn_of_qOp h0 hq;refine HeadQ.first hsel hs hc hn (fun _ _ hL=>seqB_ready hL.1) h0 hkn l.length listed a inv hr (Region.free_spec h0 hB.1.2) hy (HeadQ.lex hsel hs hc hn l (k+1) _ _ (fun j hj=> ?_) (by omega) (inv.set hr hkn) hB.2 hK);have:=hl (j+1) (by simp;omega);simpa [Nat.add_assoc,Nat.add_comm 1 j] using this
end
theorem wp_region_kept_tail {P:Program} {id:Nat} {Q:Exit→Act→World→Prop} {a:Act} {w:World} {l:List Oper} (n:Nat) (hm:P.follows .mixedOrders=true) (hB:Region.lexTailB .any l.toArray n=true)
 (h:∀ (ι:Type) (_:Nonempty ι) (f:ι→World),(∀n,Below w.heap.size w (f n))→ (∀n w',Below (f n).heap.size (f n) w'→∃m,w'=f m)→
   wpQuiet P l.toArray (fun w'=>∃n,w'=f n) (fun a'=>∀w',Below w.heap.size w w'→wpList P l.toArray Q (l.drop n) a' w') (l.take n) a): (Code.region id l.toArray true).wp P Q a w:=by
 simp only [Region.lexTailB,Bool.and_eq_true,decide_eq_true_eq] at hB;obtain ⟨⟨⟨⟨hsel,hn⟩,hs⟩,hc⟩,hlex⟩:=hB;have hn':n < l.length:=by simpa using hn
 have htl: (l.take n).length=n:=by simp;omega
 have hdl: (l.drop n).length=l.toArray.size - n:=by simp
 have h1:=h { x // Below w.heap.size w x } ⟨⟨w,Below.refl _ _⟩⟩ (fun n=>n.1) (fun n=>n.2) (fun n w' hw=>⟨⟨w',n.2.trans (hw.mono n.2.size)⟩,rfl⟩);have inv0:HeadInv .any l.toArray n (Array.replicate l.toArray.size false):=⟨by simp,(fun j oj _ hl=>by rw [getD_replicate_false] at hl;cases hl),fun t _ ht=>getD_in (by simpa using ht) (getD_replicate_false _ _)⟩;have H:=HeadQ.lex (md:= .any) (g:=l.toArray.size - n) hsel hs hc hn (l.take n) 0 _ a (fun j hj=>by
  rw [htl] at hj;simp [hj]) (by simpa using htl) inv0 (by rw [htl];exact hlex) h1
 refine wp_region_any hm ?_;have h2:=HeadQ.any (Q:=Q) (g:=l.toArray.size - n) (fun listed a' w' hw hL=>by
  obtain ⟨m,rfl⟩:=hw;have:=wpAny_of_seq (md:= .any) (Q':=Q) (l.drop n) n listed a' m.1 (fun j=>by simp [List.getElem?_drop]) (by rw [hdl];exact hL.1) (hL.2 _ m.2)
  rwa [hdl] at this) _ _ _ { w with drawn:=w.drawn+1 } ⟨⟨_,(Below.refl _ _).drew⟩,rfl⟩ H
 rw [htl,show n+ (l.toArray.size - n)=l.toArray.size by omega] at h2;exact h2
end Go.Proofs.YthfldokfnjpkmaaGreatDoor
namespace Go.Proofs.YthfldokfnjpkmaaGreatDoor
open Go.ChangeShapes Go.WideShapes Go.ChangeAt Go.RowKit
theorem fitL_nil (v:List Int):fitL [] v=v:=by cases v <;> rfl
theorem fitL_len:∀ (f:List (Int × Bool)) (v:List Int),(fitL f v).length=v.length
 | [],v=>by rw [fitL_nil]
 | _ :: _,[]=>rfl
 | t :: r,x :: q=>by
   have:=fitL_len r q;simp only [fitL,List.length_cons,this]
theorem fitL_at:∀ (f:List (Int × Bool)) (v:List Int) (i:Nat),(fitL (f.take i) v)[i]? =v[i]?
 | [],v,i=>by rw [List.take_nil,fitL_nil]
 | _ :: _,v,0=>by rw [List.take_zero,fitL_nil]
 | _ :: _,[],i+1=>by rw [List.take_succ_cons];rfl
 | t :: r,x :: q,i+1=>by
   rw [List.take_succ_cons];simp only [fitL,List.getElem?_cons_succ];exact fitL_at r q i
theorem fitL_set:∀ (f:List (Int × Bool)) (v:List Int) (i:Nat) (t:Int × Bool) (x:Int),f[i]? =some t→v[i]? =some x→ (fitL (f.take i) v).set i (val.fitI t.1 t.2 x)=fitL (f.take (i+1)) v
 | [],_,_,_,_,h,_=>by simp at h
 | _ :: _,[],_,_,_,_,h=>by simp at h
 | t :: r,x :: q,0,t',x',h1,h2=>by
   simp only [List.getElem?_cons_zero,Option.some.injEq] at h1 h2;subst h1 h2;simp only [List.take_zero,fitL_nil,List.set_cons_zero,List.take_succ_cons,fitL]
 | t :: r,x :: q,i+1,t',x',h1,h2=>by
   simp only [List.getElem?_cons_succ] at h1 h2;simp only [List.take_succ_cons,fitL,List.set_cons_succ,fitL_set r q i t' x' h1 h2]
structure MJ (w0:World) (gb n:Nat) (l:List Int) (W:World):Prop where
 bel:Below w0.heap.size w0 W
 ge:w0.heap.size≤gb
 row:W.ownsRow w0.heap.size 2 1 (.slice (some ⟨gb,0,none⟩) n n) n (leftV l)
theorem MJ.below {w0 W W':World} {gb n:Nat} {l:List Int} (k:MJ w0 gb n l W) (hb:Below W.heap.size W W'):MJ w0 gb n l W':=⟨k.bel.trans (hb.mono k.bel.size),k.ge,owns_below k.row hb⟩
theorem MJ.set {w0 W:World} {gb n i:Nat} {l l':List Int} {v:Int} (k:MJ w0 gb n l W) (h:l.set i v=l'):MJ w0 gb n l' (W.setCell ⟨gb,i,none⟩ (.int .i64 v)):=by
 refine ⟨k.bel.setCell k.ge _,k.ge, ?_⟩;have:=(k.row.stored i (.int .i64 v)).1;rw [←h];unfold leftV at this ⊢;rw [List.map_set];exact this
structure MsgP (r:List Int × Int) (n:Nat) (w:World) (e:Ending) (w':World):Prop where
 bel:Below w.heap.size w w'
 no:r.2≠0→e= .returned (.tuple #[.slice none 0 0,.int .i64 r.2])
 yes:r.2=0→∃gb,e= .returned (.tuple #[.slice (some ⟨gb,0,none⟩) n n,.int .i64 0])∧r.1.length=n∧w'.ownsRow w.heap.size 2 1 (.slice (some ⟨gb,0,none⟩) n n) n (leftV r.1)
set_option maxRecDepth 100000 in
set_option maxHeartbeats 4000000 in
theorem messageC {B pe g a k:Nat} {h:MH} {hs:SH} {ao:Option Addr} {ac:Nat} {E:EnvD} {s:StmtD} {c:ChanD} {sh:ShapeD} (w:World) (hk:Ek B w pe h hs ao ac E) (hok:Ok E) (hs1:stmtAt B w g a s) (hg:g < B) (hf:StF E.m s) (h5:s.kind=5) (hc:E.s.chans[k]? =some c) (hsh:E.m.shapes[c.shape.toNat]? =some sh) (hs0:0≤c.shape) (hfl:sh.fields.length=s.args.length):
 Calls Tryz.prog 122 #[.pointer (some ⟨pe,0,none⟩),.pointer (some ⟨g,a,none⟩),.int .i64 ((k:Int)+1)] w fun e w'=>MsgP (msgF E s ((k:Int)+1)) s.args.length w e w':=by
 have HK:=Lib.hid hk;obtain ⟨ks,hks⟩:∃q:Nat,c.shape=q:=⟨c.shape.toNat,by omega⟩;have HV:Hid (msgF E s ((k:Int)+1)=if (allF (evE E) s.args).2≠0 then ([],(allF (evE E) s.args).2) else (fitL sh.fields (allF (evE E) s.args).1,0)):=Lib.hid (by
  unfold msgF;rw [chanNo_get hc,shapeNo_get hsh])
 rw [hks,Int.toNat_natCast] at hsh;obtain ⟨qo,qc,ha1,ha2⟩:=hs1.args;have hal:=(hf.most (.inl h5)).2;have hgw:g < w.heap.size:=by have:=hk.leW;omega
 have HAL:=Lib.hid (allC (ev:=evalF E E.m.exprs.length) s.args qo qc w hk (evalC hok) ha2 (by omega) hf.args);obtain ⟨⟨vals,er⟩,hev⟩:∃q,allF (evE E) s.args=q:=⟨_,rfl⟩;rw [show allF (evalF E E.m.exprs.length) s.args= (vals,er) from hev] at HAL;rw [hev] at HV;simp only at HV;have HFL:=Lib.hid hfl;have HC:=Lib.hid (And.intro hc (And.intro hks hsh));clear hk hok hs1 hf hev hfl hc hks hsh ha2;go_enter Tryz.func122,Tryz.ntmps122;go_wp2_with fail;refine HAL.out.mono ?_;rintro e W1 hap;have HB1:=Lib.hid hap.bel;have HK1:=Lib.hid (HK.out.below hap.bel);clear HAL ha1;by_cases h0:er=0;rotate_left
 · have hd0: (er != 0)=true:=by rw [bne_iff_ne];exact h0
   have hee:=hap.no h0;subst hee;have HW:Hid (msgF E s ((k:Int)+1)= ([],er)):=Lib.hid (by rw [HV.out,if_pos h0]);have HNE:=Lib.hid h0;clear hap h0;go_wp2_with fail;go_ret2;rw [HW.out];exact ⟨HB1.out,fun _=>rfl,fun h=>absurd h HNE.out⟩
 subst h0;obtain ⟨hee,hvl,hown⟩:=hap.yes rfl;subst hee;have HW:Hid (msgF E s ((k:Int)+1)= (fitL sh.fields vals,0)):=Lib.hid (by rw [HV.out,if_neg (by simp)]);have HVL:=Lib.hid hvl;obtain ⟨g2,off2,ho2,hg2,hsa⟩:=HK1.out.ck.md.shapes.get HC.out.2.2;obtain ⟨fo,fc,hf1,hf2⟩:=hsa.fields;have hsl:=hf2.1;have HJ1:Hid (MJ w w.heap.size s.args.length (fitL (sh.fields.take 0) vals) W1):=Lib.hid ⟨HB1.out,Nat.le_refl _,by rw [List.take_zero,fitL_nil];exact hown⟩;have HSH:=Lib.hid (shapeC W1 HK1.out HC.out.1 HC.out.2.1 HC.out.2.2 ho2);have HQ:Hid (∀W,Below W1.heap.size W1 W→W.cell? ⟨g2,off2+ks*2+1,none⟩=some (.slice fo sh.fields.length fc)):=Lib.hid fun W hb=>by
  have hl:=HK1.out.leW;exact (hb.cell (p:=⟨g2,off2+ks*2+1,none⟩) (by show g2 < _;omega)).trans hf1
 have HTY:Hid (∀W,Below w.heap.size w W→Row W.heap.size fo 2 (tyAt W) sh.fields):=Lib.hid fun W hb=>by
  have hk2:=HK.out.below hb;obtain ⟨g3,off3,e3,-,hsa2⟩:=hk2.ck.md.shapes.get HC.out.2.2;rw [ho2] at e3;injection e3 with e3
  injection e3 with e3 e4
  subst e3 e4;obtain ⟨fo',fc',hf3,hf4⟩:=hsa2.fields;have h1:w.cell? ⟨g2,off2+ks*2+1,none⟩=some (.slice fo' sh.fields.length fc'):=by
   have hl:=HK.out.leW;exact ((hb.cell (p:=⟨g2,off2+ks*2+1,none⟩) (by show g2 < _;omega)).symm).trans hf3
  have h2:w.cell? ⟨g2,off2+ks*2+1,none⟩=some (.slice fo sh.fields.length fc):=by
   have hl:=HK.out.leW;exact ((HB1.out.cell (p:=⟨g2,off2+ks*2+1,none⟩) (by show g2 < _;omega)).symm).trans hf1
  rw [h2] at h1;injection h1 with h1
  injection h1 with h1 _ _
  rw [h1];exact hf4.up hk2.leW
 clear hap hvl hown hsa hf1 hf2 hg2 ho2;go_wp2_with fail;refine HSH.out.mono ?_;rintro e W2 ⟨rfl,hb2⟩;have HJ2:=Lib.hid (HJ1.out.below hb2);have x1:=HQ.out W2 hb2;clear hb2 HSH HQ HJ1;go_wp2_with fail;clear x1;obtain ⟨gb,hgb⟩:∃x,w.heap.size=x:=⟨_,rfl⟩;have HJ3:Hid (MJ w gb s.args.length (fitL (sh.fields.take 0) vals) W2):=Lib.hid (hgb ▸ HJ2.out);rw [hgb];clear hgb HJ2
 go_loopw [31] (fun iv W=>∃i:Nat,iv= .int .i64 i∧i≤sh.fields.length∧Hid (MJ w gb s.args.length (fitL (sh.fields.take i) vals) W)) (fun iv _=>sh.fields.length - (intOf iv).toNat)
 case atStart=>exact ⟨0,rfl,by omega,HJ3⟩
 case round=>
  clear HJ3;obtain ⟨i,rfl,hi,HJ⟩:=hrel;have hi0: (0:Int)≤i:=by omega
  by_cases hlt:i < sh.fields.length;rotate_left
  · have hlti:¬ (i:Int) < sh.fields.length:=by omega
    have hie:i=sh.fields.length:=by omega
    have HZ:Hid (MJ w gb s.args.length (fitL sh.fields vals) wr):=Lib.hid (by
     have:=HJ.out;rw [hie,List.take_length] at this;exact this)
    clear hie;go_wp2_with fail;go_ret2;rw [HW.out];exact ⟨HZ.out.bel,fun h=>absurd rfl h,fun _=>⟨gb,rfl,by rw [fitL_len];exact HVL.out,HZ.out.row⟩⟩
  have hlti: (i:Int) < sh.fields.length:=by omega
  have hvi:i < vals.length:=by have:=HVL.out;have:=HFL.out;omega
  have hai: (i:Int) < s.args.length:=by have:=HFL.out;omega
  obtain ⟨g3,o3,e3,-,d0⟩:=(HTY.out wr HJ.out.bel).cell hlt;subst e3;obtain ⟨⟨tb,ts⟩,hty⟩:∃q,sh.fields[i]=q:=⟨_,rfl⟩;obtain ⟨x,hx⟩:∃q,vals[i]=q:=⟨_,rfl⟩;rw [hty] at d0;obtain ⟨d1,d2⟩:=d0;have HST:=Lib.hid (fitL_set sh.fields vals i (tb,ts) x (by rw [List.getElem?_eq_getElem hlt,hty]) (by rw [List.getElem?_eq_getElem hvi,hx]));have hce:wr.cell? ⟨gb,i,none⟩=some (.int .i64 x):=by
   refine (World.ownsRow.cellAt HJ.out.row i (by have:=HFL.out;omega)).trans ?_;unfold leftV;rw [List.getElem?_map,fitL_at,List.getElem?_eq_getElem hvi,hx];rfl
  have HFZ:Hid (wr.frozen? ⟨gb,i,none⟩=false):=Lib.hid (HJ.out.row.frozenAt i);have hgl:gb < wr.heap.size:=(HJ.out.row.lt gb rfl).2;have HQ:Hid (∀W,Below (wr.alloc (.cells #[.int .i64 tb,.bool ts] 138)).heap.size (wr.alloc (.cells #[.int .i64 tb,.bool ts] 138)) W→W.cell? ⟨wr.heap.size,0,none⟩=some (.int .i64 tb)∧W.cell? ⟨wr.heap.size,1,none⟩=some (.bool ts)∧W.cell? ⟨gb,i,none⟩=some (.int .i64 x)∧W.frozen? ⟨gb,i,none⟩=false∧MJ w gb s.args.length (fitL (sh.fields.take i) vals) W):=Lib.hid fun W hb=>by
   have hbb:Below wr.heap.size wr W:=(ball _).trans (hb.mono (by simp));have hbx:W.heap[wr.heap.size]? =some (.cells #[.int .i64 tb,.bool ts] 138 (0,0)):=(hb.block _ (by simp)).trans (heap_alloc_new _ _);exact ⟨(cell_of_row _ _ 0 _ _ _ hbx).trans rfl,(cell_of_row _ _ 1 _ _ _ hbx).trans rfl,(hbb.cell (p:=⟨gb,i,none⟩) hgl).trans hce,(hbb.frozen (p:=⟨gb,i,none⟩) hgl).trans HFZ.out,HJ.out.below hbb⟩
  clear hty hx hce hgl hvi;go_upto_region 7 with fail
  clear d1 d2;obtain ⟨T,hT⟩:∃q,wr.heap.size=q:=⟨_,rfl⟩;rw [hT] at HQ ⊢;clear hT;generalize wr.alloc (.cells #[.int .i64 tb,.bool ts] 138)=W3 at HQ ⊢;refine wp_region_kept_tail 9 (by kernel_rfl) (by kernel_rfl) (fun ι hne f hf hcl=> ?_);simp only [List.take_succ_cons,List.take_zero,List.drop_succ_cons,List.drop_zero];have z0:∀n,(f n).cell? ⟨T,0,none⟩=some (.int .i64 tb):=fun n=>(HQ.out _ (hf n)).1
  have z1:∀n,(f n).cell? ⟨T,1,none⟩=some (.bool ts):=fun n=>(HQ.out _ (hf n)).2.1
  have z2:∀n,(f n).cell? ⟨gb,i,none⟩=some (.int .i64 x):=fun n=>(HQ.out _ (hf n)).2.2.1
  have HA:=Lib.hid (fun n=>val.fit_any tb x ts (f n));have HFF:=Lib.hid hcl;clear hcl hf
  repeat (go_big_quiet_step ((go_at_call 128;with_reducible exact kept_of HFF.out _ (HA.out _))))
  refine wpQuiet_nil ?_;intro W4 hb4;obtain ⟨-,-,m1,m2,hj4⟩:=HQ.out W4 hb4;have HJ5:=Lib.hid (hj4.set HST.out);clear hb4 hj4 z0 z1 z2 HA HFF;go_wp2_with fail;go_roundw;case rel=>exact ⟨i+1,by go_num,by omega,HJ5⟩
  case measure=>simp [intOf];omega
end Go.Proofs.YthfldokfnjpkmaaGreatDoor
namespace Go.Proofs.YthfldokfnjpkmaaGreatDoor
open Go.ChangeShapes Go.WideShapes Go.ChangeAt Go.RowKit
theorem wayV_len (x:WayD): (wayV x).length=6:=rfl
theorem waysV_len (l:List WayD): (waysV l).length=l.length*6:=by
 induction l with
 | nil=>rfl
 | cons x r ih=>
   show (wayV x ++ waysV r).length=_;rw [List.length_append,ih,wayV_len,List.length_cons];omega
theorem waysV_app (l r:List WayD):waysV (l ++ r)=waysV l ++ waysV r:=by unfold waysV;simp
theorem waysV_one (x:WayD):waysV [x]=wayV x:=by unfold waysV;simp
theorem ways_at:∀ (l:List WayD) (j i:Nat) (x:WayD),l[j]? =some x→i < 6→ (waysV l)[j*6+i]? = (wayV x)[i]?
 | [],_,_,_,h,_=>by simp at h
 | y :: r,0,i,x,h,hi=>by
   simp only [List.getElem?_cons_zero,Option.some.injEq] at h;subst h;show (wayV y ++ waysV r)[0*6+i]? =_;rw [Nat.zero_mul,Nat.zero_add,List.getElem?_append_left (by rw [wayV_len];exact hi)]
 | y :: r,j+1,i,x,h,hi=>by
   show (wayV y ++ waysV r)[(j+1)*6+i]? =_;rw [List.getElem?_append_right (by rw [wayV_len];omega),wayV_len,show (j+1)*6+i - 6=j*6+i by omega];exact ways_at r j i x (by simpa using h) hi
theorem ways_one (l:List WayD):∀u ∈ waysV l,u.oneCell'=true:=by
 intro u hu;unfold waysV at hu;obtain ⟨x,-,hx⟩:=List.mem_flatMap.1 hu;unfold wayV at hx;simp only [List.mem_cons,List.not_mem_nil,or_false] at hx;rcases hx with rfl | rfl | rfl | rfl | rfl | rfl <;> rfl
theorem way_cells {W:World} {B n g:Nat} {c:Nat} {l:List WayD} (h:W.ownsRow B 39 6 (.slice (some ⟨g,0,none⟩) n c) n (waysV l)) {j:Nat} {x:WayD} (hx:l[j]? =some x):
 W.cell? ⟨g,j*6,none⟩=some (.int .i64 x.esc)∧W.cell? ⟨g,j*6+1,none⟩=some (.int .i64 x.way)∧W.cell? ⟨g,j*6+2,none⟩=some (.int .i64 x.who)∧W.cell? ⟨g,j*6+3,none⟩=some (.int .i64 x.wesc)∧W.cell? ⟨g,j*6+4,none⟩=some (.int .i64 x.wway)∧W.cell? ⟨g,j*6+5,none⟩=some (.int .i64 x.err):=by
 have key:∀i (hi:i < 6) u,(wayV x)[i]? =some u→W.cell? ⟨g,j*6+i,none⟩=some u:=fun i hi u hu=>by
  have:=h.cells (g:=g) rfl (j*6+i) u ((ways_at l j i x hx hi).trans hu);rw [held.add_off,Nat.zero_add] at this;exact this
 exact ⟨key 0 (by omega) _ rfl,key 1 (by omega) _ rfl,key 2 (by omega) _ rfl,key 3 (by omega) _ rfl,key 4 (by omega) _ rfl,key 5 (by omega) _ rfl⟩
theorem XWaysP.one {w W:World} (x:WayD) (hb:Below w.heap.size w W): (W.alloc (.cells #[.int .i64 x.esc,.int .i64 x.way,.int .i64 x.who,.int .i64 x.wesc,.int .i64 x.wway,.int .i64 x.err] 39)).ownsRow w.heap.size 39 6 (.slice (some ⟨W.heap.size,0,none⟩) 1 1) 1 (waysV [x])∧Below w.heap.size w (W.alloc (.cells #[.int .i64 x.esc,.int .i64 x.way,.int .i64 x.who,.int .i64 x.wesc,.int .i64 x.wway,.int .i64 x.err] 39)):=by
 refine ⟨⟨by rw [waysV_len];rfl,.inr ⟨W.heap.size,1,#[.int .i64 x.esc,.int .i64 x.way,.int .i64 x.who,.int .i64 x.wesc,.int .i64 x.wway,.int .i64 x.err],rfl,hb.size,heap_alloc_new _ _,Nat.le_refl _,by unfold maxLen;omega,rfl, ?_⟩⟩,hb.alloc (by have:=hb.size;omega) _⟩;rw [waysV_one];rfl
set_option maxRecDepth 100000 in
set_option maxHeartbeats 2000000 in
theorem aloneC (esc way err:Int) (w:World):Calls Tryz.prog 40 #[.int .i64 esc,.int .i64 way,.int .i64 err] w fun e w'=>e= .returned (.agg #[.int .i64 esc,.int .i64 way,.int .i64 (-1),.int .i64 (-1),.int .i64 (-1),.int .i64 err])∧Below w.heap.size w w':=by
 go_enter Tryz.func40,Tryz.ntmps40;go_wp2_with fail;have hn:=heap_alloc_new w (.cells #[.int .i64 esc,.int .i64 way,.int .i64 (-1),.int .i64 (-1),.int .i64 (-1),.int .i64 err] 39);have hb:=ball (w:=w) (.cells #[.int .i64 esc,.int .i64 way,.int .i64 (-1),.int .i64 (-1),.int .i64 (-1),.int .i64 err] 39);generalize w.alloc (.cells #[.int .i64 esc,.int .i64 way,.int .i64 (-1),.int .i64 (-1),.int .i64 (-1),.int .i64 err] 39)=W at hn hb ⊢;have q:∀ (i:Nat) (v:Value),(#[.int .i64 esc,.int .i64 way,.int .i64 (-1),.int .i64 (-1),.int .i64 (-1),.int .i64 err]:Array Value)[i]? =some v→W.cell? ⟨w.heap.size,i,none⟩=some v:=fun i v hv=>(cell_of_row _ _ _ _ _ _ hn).trans hv
 have q0:=q 0 _ rfl;have q1:=q 1 _ rfl;have q2:=q 2 _ rfl;have q3:=q 3 _ rfl;have q4:=q 4 _ rfl;have q5:=q 5 _ rfl;have t:∀i,W.frozen? ⟨w.heap.size,i,none⟩=false:=fun i=>frozen_of_row _ _ _ _ _ hn
 refine bodyPost_ret (v:= .agg #[.int .i64 esc,.int .i64 way,.int .i64 (-1),.int .i64 (-1),.int .i64 (-1),.int .i64 err]) (by simp [results,Tryz.results40,go_sem,q0,q1,q2,q3,q4,q5,t]) rfl ?_;exact ⟨rfl,hb⟩
theorem ok_few {E:EnvD} (hok:Ok E):E.s.procs.length≤16:=by
 have h:=hok.may;unfold mayB mayHeadB at h;simp only [Bool.and_eq_true,decide_eq_true_eq] at h;exact h.1.1.1.2.2
theorem takeL_len (E:EnvD) (n:Int) (msg:List Int) (esc:Int):∀ (l:List TransD) (i:Nat),(takeL E n msg esc i l).1.length≤l.length
 | [],i=>by simp [takeL]
 | t :: r,i=>by
   have:=takeL_len E n msg esc r (i+1);unfold takeL;split
   · simp only [List.length_cons];omega
   · split
     · simp only [List.length_cons];omega
     · simp only [List.length_cons];omega
theorem listsF_len {α:Type} {one:Int→List TransD→List α × Bool} {M:Nat} (h:∀i e,(one i e).1.length≤e.length):∀ (l:List (List TransD)) (i:Int) (o:List TransD),(∀e ∈ l,e.length≤M)→o.length≤M→ (listsF one i l o).length≤ (l.length+1)*M
 | [],i,o,_,ho=>by
   have:=h (-1) o;simp only [listsF,List.length_nil];omega
 | e :: r,i,o,he,ho=>by
   have h1:=h i e;have h2:=he e (List.mem_cons_self ..);have h3:=listsF_len h r (i+1) o (fun x hx=>he x (List.mem_cons_of_mem _ hx)) ho;have h4: ((e :: r).length+1)*M= (r.length+1)*M+M:=by rw [List.length_cons,Nat.add_mul (r.length+1) 1 M];omega
   rw [h4];unfold listsF;split
   · omega
   · rw [List.length_append];omega
theorem takers_len {E:EnvD} {pid n:Int} {msg:List Int} (hok:Ok E) (hp:0≤pid∧pid < E.s.procs.length): (takersF E pid n msg).length≤9216:=by
 have hof:Ok { E with pid:=pid }:=⟨hok.good,hok.may,by have:=hp.1;show -1≤pid;omega,hp.2⟩;obtain ⟨k,tk,kl,p,t,l,hf⟩:=PF.of hof hp.1;unfold takersF;simp only;split
 · simp
 · rw [hf.e3];have h1:=listsF_len (one:=fun esc l=>((takeL { E with pid:=pid } n msg esc 0 l).1,(takeL { E with pid:=pid } n msg esc 0 l).2 || decide (0 < (takeL { E with pid:=pid } n msg esc 0 l).1.length))) (M:=1024) (fun i e=>takeL_len _ _ _ _ _ _) l.esc 0 l.out hf.n2 hf.n1;have h2:=hf.n3;have h3: (l.esc.length+1)*1024≤9*1024:=Nat.mul_le_mul_right _ (by omega);omega
theorem meet_len {E:EnvD} {esc way n:Int} {msg:List Int} {M:Nat} (h:∀pid:Nat,pid < E.s.procs.length→ (takersF E pid n msg).length≤M):∀q,q≤E.s.procs.length→ (meetF E esc way n msg q).length≤q*M
 | 0,_=>Nat.zero_le _
 | q+1,hq=>by
   have h1:=meet_len (esc:=esc) (way:=way) h q (by omega);have h2:=h q (by omega);rw [meetF,List.length_append,Nat.add_mul,Nat.one_mul];refine Nat.add_le_add h1 ?_;split
   · exact Nat.zero_le _
   · rw [List.length_map];exact h2
theorem snd_facts {E:EnvD} {s:StmtD} (hok:Ok E) (h: (sndF E s).1=false):∃ (k:Nat) (c:ChanD) (sh:ShapeD),(sndF E s).2.1= (k:Int)+1∧ (sndF E s).2.2=0∧E.s.chans[k]? =some c∧E.m.shapes[c.shape.toNat]? =some sh∧0≤c.shape∧sh.fields.length=s.args.length:=by
 by_cases hc0: (chnF E s).2=0
 · obtain ⟨k,hk,hkl⟩:=chn_ok hc0;obtain ⟨c,hc⟩:∃s,E.s.chans[k]? =some s:=⟨_,List.getElem?_eq_getElem hkl⟩;obtain ⟨sh,hsh,hs0,hsl⟩:=may_chan hok hc;refine ⟨k,c,sh, ?_, ?_,hc,hsh,hs0, ?_⟩
   · unfold sndF;rw [if_neg (by simp [hc0])];exact hk
   · unfold sndF;rw [if_neg (by simp [hc0])]
   · have h1:=hk;unfold chnF at h1 hc0;by_cases hx: (rchanB E (evE E) s.a).2=0∧ (shapeNo E (chanNo E (rchanB E (evE E) s.a).1)).fields.length≠s.args.length
     · rw [if_pos hx] at hc0;simp at hc0
     · rw [if_neg hx] at hc0 h1;rw [h1,chanNo_get hc,shapeNo_get hsh] at hx;have:=fun hn=>hx ⟨hc0,hn⟩
       simpa using this
 · unfold sndF at h;rw [if_pos hc0] at h;cases h
structure XO (w0:World) (cur:List WayD) (v:Value) (W:World):Prop where
 bel:Below w0.heap.size w0 W
 row:W.ownsRow w0.heap.size 39 6 v cur.length (waysV cur)
structure XI (w0:World) (cur:List WayD) (v:Value) (L:List WayD) (u:Value) (W:World):Prop where
 o:XO w0 cur v W
 tr:W.ownsRow w0.heap.size 39 6 u L.length (waysV L)
 ne:u.ownBlock=none∨u.ownBlock≠v.ownBlock
theorem XO.below {w0 W W':World} {cur:List WayD} {v:Value} (k:XO w0 cur v W) (hb:Below W.heap.size W W'):XO w0 cur v W':=⟨k.bel.trans (hb.mono k.bel.size),owns_below k.row hb⟩
theorem XI.below {w0 W W':World} {cur L:List WayD} {v u:Value} (k:XI w0 cur v L u W) (hb:Below W.heap.size W W'):XI w0 cur v L u W':=⟨k.o.below hb,owns_below k.tr hb,k.ne⟩
theorem XO.call {w0 W W':World} {cur L:List WayD} {v:Value} {e:Ending} (k:XO w0 cur v W) (h:XWaysP L W e W'):∃u,e= .returned u∧XI w0 cur v L u W':=by
 obtain ⟨u,he,hr,hb⟩:=h;refine ⟨u,he,k.below hb,hr.mono k.bel.size, ?_⟩;cases hu:u.ownBlock with
 | none=>exact .inl rfl
 | some g=>
   refine .inr fun e=> ?_
   have h1:=(hr.lt g hu).1;have h2:=(k.row.lt g e.symm).2;omega
theorem XO.app {w0 W W2 W3:World} {cur L:List WayD} {v v1:Value} (k:XO w0 cur v W) (hb:Below W.heap.size W W2) (hown:W3.ownsRow w0.heap.size 39 6 v1 (cur.length+L.length) (waysV cur ++ waysV L)) (hg:W2.grownBy W3 v.ownBlock):XO w0 (cur ++ L) v1 W3:=
 ⟨(k.bel.trans (hb.mono k.bel.size)).grown hg (Nat.le_trans k.bel.size hb.size) (fun q hq=>(k.row.lt q hq).1),by rw [waysV_app,List.length_append];exact hown⟩
theorem XI.push {w0 W W2 W3:World} {cur L M:List WayD} {v v1 u:Value} (k:XI w0 cur v L u W) (hb:Below W.heap.size W W2) (hown:W3.ownsRow w0.heap.size 39 6 v1 (cur.length+M.length) (waysV cur ++ waysV M)) (hg:W2.grownBy W3 v.ownBlock) (hat:v1.ownBlock=v.ownBlock∨v1.ownBlock=some W2.heap.size):XI w0 (cur ++ M) v1 L u W3:=by
 refine ⟨k.o.app hb hown hg,(owns_below k.tr hb).kept hg k.ne, ?_⟩;rcases hat with h | h
 · rw [h];exact k.ne
 · cases hu:u.ownBlock with
   | none=>exact .inl rfl
   | some g=>
     refine .inr fun e=> ?_
     rw [h] at e;injection e with e
     have h2:=(k.tr.lt g hu).2;have:=hb.size;omega
end Go.Proofs.YthfldokfnjpkmaaGreatDoor
