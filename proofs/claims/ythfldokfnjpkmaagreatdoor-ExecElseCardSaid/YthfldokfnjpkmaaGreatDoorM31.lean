/- The ways of a send. -/
import Derived.Test.YthfldokfnjpkmaaGreatDoorM30
import Derived.Laws.AppendOwnNone
set_option linter.unusedVariables false
set_option linter.unusedSimpArgs false
namespace Go.Proofs.YthfldokfnjpkmaaGreatDoor
open Go.ChangeShapes Go.WideShapes Go.ChangeAt Go.RowKit
def withEW (esc way:Int) (w:WayD):WayD:={ w with esc:=esc,way:=way }
theorem sends_1 {E:EnvD} {esc way er:Int} {s:StmtD} {x:Int} (h:sndF E s= (true,x,er)):sendsF E esc way s= [aloneW esc way er]:=by unfold sendsF;rw [h];rfl
theorem meet_at {E:EnvD} {esc way n:Int} {msg:List Int} {q:Nat} (h:¬ (q:Int)=E.pid):meetF E esc way n msg (q+1)=meetF E esc way n msg q ++ (takersF E q n msg).map (withEW esc way):=by rw [meetF,if_neg h];rfl
theorem meet_own {E:EnvD} {esc way n:Int} {msg:List Int} {q:Nat} (h: (q:Int)=E.pid):meetF E esc way n msg (q+1)=meetF E esc way n msg q:=by rw [meetF,if_pos h,List.append_nil]
set_option maxRecDepth 100000 in
set_option maxHeartbeats 4000000 in
theorem sendsC {B pe g a:Nat} {h:MH} {hs:SH} {ao:Option Addr} {ac:Nat} {E:EnvD} {s:StmtD} (esc way:Int) (w:World) (hblk:w.heap[pe]? =some (.cells (eCells h hs ao ac E) 36 (0,0))) (hB:B≤w.heap.size) (hd:ED B w h hs ao E) (hok:Ok E) (hs1:stmtAt B w g a s) (hg:g < B) (hf:StF E.m s) (h5:s.kind=5):
 Calls Tryz.prog 71 #[.pointer (some ⟨pe,0,none⟩),.int .i64 esc,.int .i64 way,.pointer (some ⟨g,a,none⟩)] w (XWaysP (sendsF E esc way s) w):=by
 have hek:Ek B w pe h hs ao ac E:=Ek.ofW hblk hB hd;have HEK:=Lib.hid hek;have HW:=Lib.hid (And.intro hblk (And.intro hB (And.intro hd (And.intro hs1 hg))));have HO:=Lib.hid hok;have HF:=Lib.hid hf;have H5:=Lib.hid h5;have HS:=Lib.hid (sendableC w hek hok hs1 hg (hf.a (by omega)));obtain ⟨⟨can,ch,er⟩,hsn⟩:∃r,sndF E s=r:=⟨_,rfl⟩;have HSN:=Lib.hid hsn;rw [hsn] at HS;simp only at HS;clear hblk hB hd hok hs1 hg hf h5 hsn hek;go_enter Tryz.func71,Tryz.ntmps71;go_wp2_with fail;refine HS.out.mono ?_;rintro e W1 ⟨rfl,hb1⟩;have HB1:=Lib.hid hb1;clear hb1 HS;cases can;rotate_left
 · have HA:=Lib.hid (aloneC esc way er W1);have HV:=Lib.hid (sends_1 (esc:=esc) (way:=way) HSN.out);go_wp2_with fail;refine HA.out.mono ?_;rintro e W2 ⟨rfl,hb2⟩;have HP:=Lib.hid (XWaysP.one (aloneW esc way er) (keepS HB1.out hb2));clear hb2 HA;go_wp2_with fail;refine bodyPost_ret (v:= .slice (some ⟨W2.heap.size,0,none⟩) 1 1) (by simp [results,Tryz.results71,go_sem]) rfl ?_;exact ⟨_,rfl,by rw [HV.out];exact HP.out.1,HP.out.2⟩
 obtain ⟨k,c,sh,e1,e2,hc,hsh,hs0,hfl⟩:=snd_facts HO.out (by rw [HSN.out]);rw [HSN.out] at e1 e2;have e1':ch= (k:Int)+1:=e1;have e2':er=0:=e2;subst e1' e2';have HCS:=Lib.hid (And.intro hc (And.intro hsh (And.intro hs0 hfl)));have HV:Hid (sendsF E esc way s=if 0 < sh.room then [] else if (msgF E s ((k:Int)+1)).2≠0 then [aloneW esc way (msgF E s ((k:Int)+1)).2] else meetF E esc way ((k:Int)+1) (msgF E s ((k:Int)+1)).1 E.s.procs.length):=Lib.hid (by
  unfold sendsF;rw [HSN.out,if_neg (by simp)];simp only;rw [chanNo_get hc,shapeNo_get hsh])
 obtain ⟨ks,hks⟩:∃q:Nat,c.shape=q:=⟨c.shape.toNat,by omega⟩;rw [hks,Int.toNat_natCast] at hsh;obtain ⟨g2,off2,ho2,hg2,hsa⟩:=(HEK.out.below HB1.out).ck.md.shapes.get hsh;have HSH:=Lib.hid (shapeC W1 (HEK.out.below HB1.out) hc hks hsh ho2);have y0:Hid (∀W,Below W1.heap.size W1 W→W.cell? ⟨g2,off2+ks*2,none⟩=some (.int .i64 sh.room)):=Lib.hid fun W hb=>(hb.cell (p:=⟨g2,off2+ks*2,none⟩) (by have:=(HEK.out.below HB1.out).leW;show g2 < _;omega)).trans hsa.c0
 clear e1 e2 hc hsh hs0 hfl hks hsa ho2 hg2;go_wp2_with fail;refine HSH.out.mono ?_;rintro e W2 ⟨rfl,hb2⟩;have HB2:=Lib.hid (keepS HB1.out hb2);have y1:=y0.out W2 hb2;clear hb2 HSH y0 HB1;by_cases hr:0 < sh.room
 · have hdr:decide (0 < sh.room)=true:=decide_eq_true hr;have HVV:Hid (sendsF E esc way s= []):=Lib.hid (by rw [HV.out,if_pos hr]);clear hr;go_wp2_with fail;refine bodyPost_ret (v:= .slice none 0 0) (by simp [results,Tryz.results71,go_sem]) rfl ?_;exact ⟨.slice none 0 0,rfl,by rw [HVV.out];exact World.ownsRow_nil _ _ _ _,HB2.out⟩
 have hdr:decide (0 < sh.room)=false:=decide_eq_false hr;have HV2:Hid (sendsF E esc way s=if (msgF E s ((k:Int)+1)).2≠0 then [aloneW esc way (msgF E s ((k:Int)+1)).2] else meetF E esc way ((k:Int)+1) (msgF E s ((k:Int)+1)).1 E.s.procs.length):=Lib.hid (by rw [HV.out,if_neg hr]);have HM:=Lib.hid (messageC W2 (HEK.out.below HB2.out) HO.out (stmtAt.below (HB2.out.mono HW.out.2.1) HW.out.2.2.2.2 HW.out.2.2.2.1) HW.out.2.2.2.2 HF.out H5.out HCS.out.1 HCS.out.2.1 HCS.out.2.2.1 HCS.out.2.2.2);clear hr HV;obtain ⟨⟨msg,er⟩,hms⟩:∃r,msgF E s ((k:Int)+1)=r:=⟨_,rfl⟩;rw [hms] at HM HV2;simp only at HV2;clear hms;go_wp2_with fail;refine HM.out.mono ?_;intro e W3 hmp;have HB3:=Lib.hid (keepS HB2.out hmp.bel);clear y1 hdr HM;by_cases h0:er=0;rotate_left
 · have hee:=hmp.no h0;subst hee;have hd0: (er != 0)=true:=by rw [bne_iff_ne];exact h0
   have HA:=Lib.hid (aloneC esc way er W3);have HVV:Hid (sendsF E esc way s= [aloneW esc way er]):=Lib.hid (by rw [HV2.out,if_pos h0]);clear h0 hmp;go_wp2_with fail;refine HA.out.mono ?_;rintro e W4 ⟨rfl,hb4⟩;have HP:=Lib.hid (XWaysP.one (aloneW esc way er) (keepS HB3.out hb4));clear hb4 HA;go_wp2_with fail;refine bodyPost_ret (v:= .slice (some ⟨W4.heap.size,0,none⟩) 1 1) (by simp [results,Tryz.results71,go_sem]) rfl ?_;exact ⟨_,rfl,by rw [HVV.out];exact HP.out.1,HP.out.2⟩
 obtain ⟨gb,hee,hml,hmr⟩:=hmp.yes h0;subst hee h0;have HVV:Hid (sendsF E esc way s=meetF E esc way ((k:Int)+1) msg E.s.procs.length):=Lib.hid (by rw [HV2.out,if_neg (by simp)]);have HML:=Lib.hid hml;have HMR:=Lib.hid hmr;have HMB:=Lib.hid hmp.bel;clear hmp hml hmr HV2;have HCE:Hid (∀W,Below w.heap.size w W→W.cell? ⟨pe,9,none⟩=some (.slice hs.po E.s.procs.length hs.pc)∧W.cell? ⟨pe,13,none⟩=some (.int .i64 E.pid)):=Lib.hid fun W hb=>⟨(HEK.out.below hb).sk.c2,(HEK.out.below hb).c13⟩
 obtain ⟨y9,y13⟩:=HCE.out W3 HB3.out;go_wp2_with fail;clear y9 y13;have HBE:Hid (∀W,Below W3.heap.size W3 W→Below w.heap.size w W):=Lib.hid fun W hb=>keepS HB3.out hb
 have hn8:=(HF.out.most (.inl H5.out)).2;obtain ⟨n,hn⟩:∃n,s.args.length=n:=⟨_,rfl⟩;rw [hn] at HML HMR hn8 ⊢;have HT:Hid (∀ (q:Nat) W,q < E.s.procs.length→Below W3.heap.size W3 W→Calls Tryz.prog 123 #[.pointer (some ⟨pe,0,none⟩),.int .i64 q,.int .i64 ((k:Int)+1),.slice (some ⟨gb,0,none⟩) n n] W (XWaysP (takersF E q ((k:Int)+1) msg) W)):=Lib.hid fun q W hq hb=>by
  have hbw:=HBE.out W hb;have hrow:=own_row HMR.out (by omega) (HMR.out.lt gb rfl).2;have:=takersC (uc:=n) (b:=W3.heap.size) (q:Int) ((k:Int)+1) W ((hbw.block pe (lt_of_block HW.out.1)).trans HW.out.1) (Nat.le_trans HW.out.2.1 hbw.size) (HW.out.2.2.1.below (hbw.mono HW.out.2.1)) HO.out ⟨by omega,by omega⟩ hb.size (hrow.mono fun _ _ _ hgg=>intAt.below hb hgg);rw [HML.out] at this;exact this
 have HLN:Hid (∀q:Nat,q < E.s.procs.length→ (takersF E q ((k:Int)+1) msg).length≤9216):=Lib.hid fun q hq=>takers_len HO.out ⟨by omega,by omega⟩
 have hfew:E.s.procs.length≤16:=ok_few HO.out;have HX0:Hid (XO W3 [] (.slice none 0 0) W3):=Lib.hid ⟨Below.refl _ _,World.ownsRow_nil _ _ _ _⟩;have HSE:=Lib.hid HB3.out.size;clear hn
 go_loopw [13,57] (fun v iv W'=>∃ (q:Nat) (cur:List WayD),iv= .int .i64 q∧q≤E.s.procs.length∧Hid (XO W3 cur v W')∧Hid (cur=meetF E esc way ((k:Int)+1) msg q)) (fun _ iv _=>E.s.procs.length - (intOf iv).toNat)
 case atStart=>exact ⟨0,[],rfl,Nat.zero_le _,HX0,Lib.hid rfl⟩
 case round=>
  clear HX0;obtain ⟨q,cur,rfl,hq,HX,HC⟩:=hrel;obtain ⟨o1,c1,rfl⟩:=owns_head HX.out.row;obtain ⟨y9,y13⟩:=HCE.out wr (HBE.out wr HX.out.bel);have hq0: (0:Int)≤q:=by omega
  by_cases hlt:q < E.s.procs.length;rotate_left
  · have hlti:¬ (q:Int) < E.s.procs.length:=by omega
    have hqe:q=E.s.procs.length:=by omega
    subst hqe;have HP:Hid (XWaysP (sendsF E esc way s) w (.returned (.slice o1 cur.length c1)) wr):=Lib.hid ⟨_,rfl,by rw [HVV.out,←HC.out];exact HX.out.row.mono HSE.out,HBE.out wr HX.out.bel⟩;clear y9 y13;go_wp2_with fail;refine bodyPost_ret (v:= .slice o1 cur.length c1) (by simp [results,Tryz.results71,go_sem]) rfl ?_;exact HP.out
  have hlti: (q:Int) < E.s.procs.length:=by omega
  by_cases hpid: (q:Int)=E.pid
  · have hqb: ((q:Int) == E.pid)=true:=by simpa using hpid
    have HC2:Hid (cur=meetF E esc way ((k:Int)+1) msg (q+1)):=Lib.hid (by rw [meet_own hpid];exact HC.out);clear hpid y9;go_wp2_with fail;clear y13 hqb;go_roundw;case rel=>exact ⟨q+1,cur,by go_num,by omega,HX,HC2⟩
    case measure=>simp [intOf];omega
  have hqb: ((q:Int) == E.pid)=false:=by simpa using hpid
  have HNP:=Lib.hid hpid;have HTQ:=Lib.hid (HT.out q wr hlt HX.out.bel);have hLl:=HLN.out q hlt;obtain ⟨L,hL⟩:∃L,takersF E q ((k:Int)+1) msg=L:=⟨_,rfl⟩;rw [hL] at HTQ hLl;have HL:=Lib.hid hL;have hcl:cur.length≤q*9216:=by rw [HC.out];exact meet_len (fun p hp=>HLN.out p hp) q (by omega)
  clear hpid y9 hL;go_wp2_with fail;refine HTQ.out.mono ?_;intro e W4 hwp;obtain ⟨u,rfl,hxi⟩:=HX.out.call hwp;obtain ⟨o4,c4,rfl⟩:=owns_head hxi.tr;have HXI:=Lib.hid hxi;clear hwp hxi HTQ y13 hqb HX;go_wp2_with fail
  go_loopw [13,72] (fun v iv W'=>∃ (j:Nat) (cur2:List WayD),iv= .int .i64 j∧j≤L.length∧Hid (XI W3 cur2 v L (.slice o4 L.length c4) W')∧Hid (cur2=cur ++ (L.take j).map (withEW esc way)∧cur2.length=cur.length+j)) (fun _ iv _=>L.length - (intOf iv).toNat)
  case atStart=>exact ⟨0,cur,rfl,Nat.zero_le _,HXI,Lib.hid ⟨by simp,by omega⟩⟩
  case round=>
   clear HXI;obtain ⟨j,cur2,rfl,hj,HXJ,HCJ⟩:=hrel;obtain ⟨o5,c5,rfl⟩:=owns_head HXJ.out.o.row;have hj0: (0:Int)≤j:=by omega
   by_cases hlt2:j < L.length;rotate_left
   · have hlti2:¬ (j:Int) < L.length:=by omega
     have hje:j=L.length:=by omega
     subst hje;have HC2:Hid (cur2=meetF E esc way ((k:Int)+1) msg (q+1)):=Lib.hid (by rw [meet_at HNP.out,HL.out,HCJ.out.1,←HC.out,List.take_length]);have HXN:=Lib.hid HXJ.out.o;go_wp2_with fail;go_roundw;case rel=>exact ⟨q+1,cur2,by go_num,by omega,HXN,HC2⟩
     case measure=>simp [intOf];omega
   have hlti2: (j:Int) < L.length:=by omega
   obtain ⟨x,hx⟩:∃x,L[j]? =some x:=⟨_,List.getElem?_eq_getElem hlt2⟩;obtain ⟨g7,c7,e7,-⟩:=HXJ.out.tr.form (by omega);injection e7 with e7 _ e8
   subst e7 e8;obtain ⟨z0,z1,z2,z3,z4,z5⟩:=way_cells HXJ.out.tr hx;have HXX:=Lib.hid hx;obtain ⟨iw,hi1,hi2,hi3,hi4⟩:=info_parts (show (Tryz.prog.info? 39).map (fun i=>(i.zero,i.size,i.bytes))=some (some (.agg #[.int .i64 0,.int .i64 0,.int .i64 0,.int .i64 0,.int .i64 0,.int .i64 0]),6,48) by kernel_rfl);have HI:=Lib.hid (And.intro hi1 (And.intro hi2 (And.intro hi3 hi4)));clear hi1 hi2 hi3 hi4 hx;go_upto_region 17 with fail
   clear z0 z1 z2 z3 z4 z5;go_upto_region 18 with fail
   have hn5:=heap_alloc_new wr (.cells #[.int .i64 esc,.int .i64 way,.int .i64 x.who,.int .i64 x.wesc,.int .i64 x.wway,.int .i64 x.err] 39);have HB5:=Lib.hid (ball (w:=wr) (.cells #[.int .i64 esc,.int .i64 way,.int .i64 x.who,.int .i64 x.wesc,.int .i64 x.wway,.int .i64 x.err] 39));generalize wr.alloc (.cells #[.int .i64 esc,.int .i64 way,.int .i64 x.who,.int .i64 x.wesc,.int .i64 x.wway,.int .i64 x.err] 39)=W5 at hn5 HB5 ⊢;have q:∀ (i:Nat) (v:Value),(#[.int .i64 esc,.int .i64 way,.int .i64 x.who,.int .i64 x.wesc,.int .i64 x.wway,.int .i64 x.err]:Array Value)[i]? =some v→W5.cell? ⟨wr.heap.size,i,none⟩=some v:=fun i v hv=>(cell_of_row _ _ _ _ _ _ hn5).trans hv
   have q0:=q 0 _ rfl;have q1:=q 1 _ rfl;have q2:=q 2 _ rfl;have q3:=q 3 _ rfl;have q4:=q 4 _ rfl;have q5:=q 5 _ rfl;have HM1:Hid (cur2.length+1≤maxLen):=Lib.hid (by have:=HCJ.out.2;unfold maxLen;omega);have HM2:Hid ((cur2.length+1)*48≤140737488355328):=Lib.hid (by have:=HCJ.out.2;omega);have hrow:=owns_below HXJ.out.o.row HB5.out;have HBS:=Lib.hid (Nat.le_trans HXJ.out.o.bel.size HB5.out.size);have HROW:=Lib.hid hrow;clear q hn5 hrow;go_wp2_with (at_builtin;refine wpList_append_own_at _ rfl _ _ 45 rfl W3.heap.size 39 iw (.agg #[.int .i64 0,.int .i64 0,.int .i64 0,.int .i64 0,.int .i64 0,.int .i64 0]) 6 48 Tryz.underlying45 HI.out.1 HI.out.2.1 HI.out.2.2.1 HI.out.2.2.2 rfl (by decide) (.slice o5 cur2.length c5) cur2.length (waysV cur2) rfl (HROW.out.alloc _) ⟨W5.heap.size,0,none⟩ 1 1 (waysV [withEW esc way x]) rfl rfl (arr_at _ _ _ _ rfl) (ways_one _) HM1.out HM2.out (by have:=HBS.out;simp;omega) ?_);intro v1 W6 hown hgrow _ hat;obtain ⟨o6,q6,rfl⟩:=owns_head hown;have HXN:=Lib.hid (HXJ.out.push (HB5.out.alloc (by have:=HB5.out.size;omega) _) hown hgrow (hat.imp id fun e=>e.trans (by simp)));have HCN:Hid (cur2 ++ [withEW esc way x]=cur ++ (L.take (j+1)).map (withEW esc way)∧ (cur2 ++ [withEW esc way x]).length=cur.length+ (j+1)):=Lib.hid (by
    obtain ⟨hLj,hxe⟩:=List.getElem?_eq_some_iff.1 HXX.out;refine ⟨?_,by rw [List.length_append,List.length_singleton];have:=HCJ.out.2;omega⟩;rw [HCJ.out.1,List.take_succ_eq_append_getElem hLj,hxe,List.map_append,List.append_assoc];rfl)
   clear hown hgrow hat q0 q1 q2 q3 q4 q5 HXJ HCJ HROW;go_wp2_with fail;go_roundw;case rel=>exact ⟨j+1,_,by go_num,by omega,HXN,HCN⟩
   case measure=>simp [intOf];omega
end Go.Proofs.YthfldokfnjpkmaaGreatDoor
namespace Go.Proofs.YthfldokfnjpkmaaGreatDoor
open Go.ChangeShapes Go.WideShapes Go.ChangeAt Go.RowKit
theorem sends_len {E:EnvD} {esc way:Int} {s:StmtD} (hok:Ok E): (sendsF E esc way s).length≤147456:=by
 unfold sendsF;split
 · simp
 split
 · simp
 split
 · simp
 have h1:=meet_len (E:=E) (esc:=esc) (way:=way) (n:=(sndF E s).2.1) (msg:=(msgF E s (sndF E s).2.1).1) (M:=9216) (fun pid hp=>takers_len hok ⟨by omega,by omega⟩) E.s.procs.length (Nat.le_refl _);have h2:=ok_few hok;have h3:E.s.procs.length*9216≤16*9216:=Nat.mul_le_mul_right _ h2;omega
theorem XI.swap {w0 W:World} {cur L:List WayD} {v u:Value} (k:XI w0 cur v L u W):XI w0 L u cur v W:=by
 refine ⟨⟨k.o.bel,k.tr⟩,k.o.row, ?_⟩;cases hv:v.ownBlock with
 | none=>exact .inl rfl
 | some g=>
   refine .inr fun e=> ?_
   rcases k.ne with h | h
   · rw [h] at e;cases e
   · exact h (by rw [hv];exact e.symm)
theorem out_7 (E:EnvD) {esc:Int} {i:Nat} {t:TransD} {r:List TransD} (h:t.s.kind=7):outF E esc i (t :: r)=outF E esc (i+1) r∧elseF esc i (t :: r)=aloneW esc i 0 :: elseF esc (i+1) r:=by
 refine ⟨?_, ?_⟩
 · rw [outF,oneF,if_pos h,List.nil_append]
 · rw [elseF,if_pos h];rfl
theorem out_no {esc:Int} {i:Nat} {t:TransD} {r:List TransD} (h:t.s.kind≠7):elseF esc i (t :: r)=elseF esc (i+1) r:=by rw [elseF,if_neg h,List.nil_append]
theorem out_5 {E:EnvD} {esc:Int} {i:Nat} {t:TransD} {r:List TransD} (h:t.s.kind=5):outF E esc i (t :: r)=sendsF E esc i t.s ++ outF E esc (i+1) r:=by rw [outF,oneF,if_neg (by omega),if_pos h]
theorem out_y {E:EnvD} {esc er:Int} {i:Nat} {t:TransD} {r:List TransD} (h:t.s.kind≠7) (h5:t.s.kind≠5) (hc:canF E t.s= (true,er)):outF E esc i (t :: r)= [aloneW esc i er] ++ outF E esc (i+1) r:=by rw [outF,oneF,if_neg h,if_neg h5,hc];rfl
theorem out_n {E:EnvD} {esc er:Int} {i:Nat} {t:TransD} {r:List TransD} (h:t.s.kind≠7) (h5:t.s.kind≠5) (hc:canF E t.s= (false,er)):outF E esc i (t :: r)=outF E esc (i+1) r:=by rw [outF,oneF,if_neg h,if_neg h5,hc];rfl
set_option maxRecDepth 100000 in
set_option maxHeartbeats 4000000 in
theorem listedC {B pe lc:Nat} {h:MH} {hs:SH} {ao lo:Option Addr} {ac:Nat} {E:EnvD} {l:List TransD} (esc:Int) (w:World) (hblk:w.heap[pe]? =some (.cells (eCells h hs ao ac E) 36 (0,0))) (hB:B≤w.heap.size) (hd:ED B w h hs ao E) (hok:Ok E) (hl:Row B lo 9 (transAt B w) l) (hF:∀t ∈ l,StF E.m t.s) (hn:l.length≤1024):
 Calls Tryz.prog 43 #[.pointer (some ⟨pe,0,none⟩),.int .i64 esc,.slice lo l.length lc] w (XWaysP (listedF E esc l) w):=by
 have HEK:=Lib.hid (Ek.ofW (B:=B) hblk hB hd);have HW:=Lib.hid (And.intro hblk (And.intro hB hd));have HO:=Lib.hid hok;have HR:=Lib.hid hl;have HF:=Lib.hid hF;have hln:=hn;have HX0:Hid (XI w [] (.slice none 0 0) [] (.slice none 0 0) w):=Lib.hid ⟨⟨Below.refl _ _,World.ownsRow_nil _ _ _ _⟩,World.ownsRow_nil _ _ _ _,.inl rfl⟩;have HSL:Hid (∀way s,(sendsF E esc way s).length≤147456):=Lib.hid fun way s=>sends_len hok
 have HSC:Hid (∀ (way:Int) (g a:Nat) (s:StmtD) (W:World),Below w.heap.size w W→stmtAt B W g a s→g < B→StF E.m s→s.kind=5→Calls Tryz.prog 71 #[.pointer (some ⟨pe,0,none⟩),.int .i64 esc,.int .i64 way,.pointer (some ⟨g,a,none⟩)] W (XWaysP (sendsF E esc way s) W)):=Lib.hid fun way g a s W hb hs1 hg hf h5=>
  sendsC esc way W ((hb.block pe (lt_of_block HW.out.1)).trans HW.out.1) (Nat.le_trans HW.out.2.1 hb.size) (HW.out.2.2.below (hb.mono HW.out.2.1)) HO.out hs1 hg hf h5
 obtain ⟨iw,hi1,hi2,hi3,hi4⟩:=info_parts (show (Tryz.prog.info? 39).map (fun i=>(i.zero,i.size,i.bytes))=some (some (.agg #[.int .i64 0,.int .i64 0,.int .i64 0,.int .i64 0,.int .i64 0,.int .i64 0]),6,48) by kernel_rfl);have HI:=Lib.hid (And.intro hi1 (And.intro hi2 (And.intro hi3 hi4)));clear hi1 hi2 hi3 hi4 hblk hB hd hok hl hF hn;go_enter Tryz.func43,Tryz.ntmps43;go_wp2_with fail
 go_loopw [7,8,15] (fun v u iv W'=>∃ (i:Nat) (cur oth:List WayD),iv= .int .i64 i∧i≤l.length∧Hid (XI w cur v oth u W')∧Hid (cur ++ outF E esc i (l.drop i)=outF E esc 0 l∧oth ++ elseF esc i (l.drop i)=elseF esc 0 l∧cur.length≤i*147456∧oth.length≤i)) (fun _ _ iv _=>l.length - (intOf iv).toNat)
 case atStart=>exact ⟨0,[],[],rfl,Nat.zero_le _,HX0,Lib.hid ⟨rfl,rfl,by simp,by simp⟩⟩
 case round=>
  clear HX0;obtain ⟨i,cur,oth,rfl,hi,HX,HC⟩:=hrel;obtain ⟨o1,c1,rfl⟩:=owns_head HX.out.o.row;obtain ⟨o2,c2,rfl⟩:=owns_head HX.out.tr;have hi0: (0:Int)≤i:=by omega
  by_cases hlt:i < l.length;rotate_left
  · have hlti:¬ (i:Int) < l.length:=by omega
    have HCE:Hid (cur=outF E esc 0 l∧oth=elseF esc 0 l):=Lib.hid (by
     obtain ⟨a1,a2,-⟩:=HC.out;rw [List.drop_eq_nil_of_le (by omega)] at a1 a2;exact ⟨by rw [←a1];simp [outF],by rw [←a2];simp [elseF]⟩)
    by_cases h0:cur.length=0
    · have HP:Hid (XWaysP (listedF E esc l) w (.returned (.slice o2 oth.length c2)) wr):=Lib.hid ⟨_,rfl,by
       unfold listedF;rw [←HCE.out.1,←HCE.out.2,if_pos h0];exact HX.out.tr,HX.out.o.bel⟩
      have hd0: ((cur.length:Int) == 0)=true:=by rw [beq_iff_eq];omega
      clear h0;go_wp2_with fail;refine bodyPost_ret (v:= .slice o2 oth.length c2) (by simp [results,Tryz.results43,go_sem]) rfl ?_;exact HP.out
    · have HP:Hid (XWaysP (listedF E esc l) w (.returned (.slice o1 cur.length c1)) wr):=Lib.hid ⟨_,rfl,by
       unfold listedF;rw [←HCE.out.1,if_neg h0];exact HX.out.o.row,HX.out.o.bel⟩
      have hd0: ((cur.length:Int) == 0)=false:=by rw [beq_eq_false_iff_ne];omega
      clear h0;go_wp2_with fail;refine bodyPost_ret (v:= .slice o1 cur.length c1) (by simp [results,Tryz.results43,go_sem]) rfl ?_;exact HP.out
  have hlti: (i:Int) < l.length:=by omega
  have HEK1:=Lib.hid (HEK.out.below HX.out.o.bel);obtain ⟨g,off,rfl,hg,hta⟩:=(HR.out.mono fun _ _ _ hgg=>transAt.below (HX.out.o.bel.mono HW.out.2.1) hgg).cell hlt;obtain ⟨t,htt⟩:∃t,l[i]=t:=⟨_,rfl⟩;rw [htt] at hta;have HST:=Lib.hid hta.s;have HSF:=Lib.hid (HF.out t (htt ▸ List.getElem_mem hlt));have HDR:Hid (l.drop i=t :: l.drop (i+1)):=Lib.hid (by rw [List.drop_eq_getElem_cons hlt,htt]);have x0:=hta.s.c0;have hll:=HR.out.1;have HG:=Lib.hid hg;clear hta htt hg;by_cases k7:t.s.kind=7
  · have hq: (t.s.kind == 7)=true:=by simpa using k7
    have HA:=Lib.hid (aloneC esc i 0 wr);go_wp2_with fail;refine HA.out.mono ?_;rintro e W1 ⟨rfl,hb1⟩;have HM1:Hid (oth.length+1≤maxLen):=Lib.hid (by have:=HC.out.2.2;unfold maxLen;omega);have HM2:Hid ((oth.length+1)*48≤140737488355328):=Lib.hid (by have:=HC.out.2.2;omega);have HX1:=Lib.hid ((HX.out.below hb1).swap);have HC1:Hid (cur ++ outF E esc (i+1) (l.drop (i+1))=outF E esc 0 l∧ (oth ++ [aloneW esc i 0]) ++ elseF esc (i+1) (l.drop (i+1))=elseF esc 0 l∧cur.length≤ (i+1)*147456∧ (oth ++ [aloneW esc i 0]).length≤i+1):=Lib.hid (by
     obtain ⟨a1,a2,a3,a4⟩:=HC.out;rw [HDR.out] at a1 a2;rw [(out_7 E k7).1] at a1;rw [(out_7 E k7).2] at a2;exact ⟨a1,by rw [←a2,List.append_assoc];rfl,Nat.le_trans a3 (Nat.mul_le_mul_right _ (Nat.le_succ i)),by rw [List.length_append,List.length_singleton];omega⟩)
    have HM3:Hid (∀o,w.heap.size≤ (W1.alloc o).heap.size):=Lib.hid fun o=>by have:=HX1.out.o.bel.size;simp;omega
    clear hb1 HA k7 hq x0 HX HC;go_wp2_with (at_builtin;refine wpList_append_own_at _ rfl _ _ 45 rfl w.heap.size 39 iw (.agg #[.int .i64 0,.int .i64 0,.int .i64 0,.int .i64 0,.int .i64 0,.int .i64 0]) 6 48 Tryz.underlying45 HI.out.1 HI.out.2.1 HI.out.2.2.1 HI.out.2.2.2 rfl (by decide) (.slice o2 oth.length c2) oth.length (waysV oth) rfl (HX1.out.o.row.alloc _) ⟨W1.heap.size,0,none⟩ 1 1 (waysV [aloneW esc i 0]) rfl rfl (arr_at _ _ _ _ rfl) (ways_one _) HM1.out HM2.out (HM3.out _) ?_);intro v1 W2 hown hgrow _ hat;obtain ⟨o6,q6,rfl⟩:=owns_head hown;have HXN:=Lib.hid ((HX1.out.push (ball _) hown hgrow (hat.imp id fun e=>e.trans (by simp))).swap);clear hown hgrow hat HX1;go_wp2_with fail;go_roundw;case rel=>exact ⟨i+1,cur,oth ++ [aloneW esc i 0],by go_num,by omega,HXN,HC1⟩
    case measure=>simp [intOf];omega
  have hq7: (t.s.kind == 7)=false:=by simpa using k7
  by_cases k5:t.s.kind=5
  · have hq5: (t.s.kind == 5)=true:=by simpa using k5
    have HS:=Lib.hid (HSC.out i g (off+i*9) t.s wr HX.out.o.bel HST.out HG.out HSF.out k5);go_wp2_with fail;refine HS.out.mono ?_;intro e W1 hwp;obtain ⟨u,rfl,hxi⟩:=HX.out.o.call hwp;have hb1:Below wr.heap.size wr W1:=hwp.choose_spec.2.2;have HX1:=Lib.hid (HX.out.below hb1);have HXC:=Lib.hid hxi;have HSLL:=Lib.hid (HSL.out i t.s);have HC1:Hid ((cur ++ sendsF E esc i t.s) ++ outF E esc (i+1) (l.drop (i+1))=outF E esc 0 l∧oth ++ elseF esc (i+1) (l.drop (i+1))=elseF esc 0 l∧ (cur ++ sendsF E esc i t.s).length≤ (i+1)*147456∧oth.length≤i+1):=Lib.hid (by
     obtain ⟨a1,a2,a3,a4⟩:=HC.out;have a5:=HSLL.out;rw [HDR.out] at a1 a2;rw [out_5 k5] at a1;rw [out_no k7] at a2;exact ⟨by rw [←a1,List.append_assoc],a2,by rw [List.length_append];omega,by omega⟩)
    have HM1:Hid (cur.length+ (sendsF E esc i t.s).length≤maxLen):=Lib.hid (by have:=HC.out.2.2;have:=HSLL.out;unfold maxLen;omega);have HM2:Hid ((cur.length+ (sendsF E esc i t.s).length)*48≤140737488355328):=Lib.hid (by have:=HC.out.2.2;have:=HSLL.out;omega);obtain ⟨L,hL⟩:∃L,sendsF E esc i t.s=L:=⟨_,rfl⟩;rw [hL] at HXC HC1 HM1 HM2;have HM3:=Lib.hid HX1.out.o.bel.size;have HCL:=Lib.hid (HC.out.2.2.2);clear hb1 hwp hxi HS k5 k7 hq7 hq5 x0 HX HSLL hL HC;rcases HXC.out.tr.2 with ⟨rfl,hL0⟩ | ⟨g7,c7,cu,rfl,_⟩
    · have hL1:L= []:=List.eq_nil_of_length_eq_zero hL0;subst hL1;rw [List.append_nil] at HC1;clear hL0 HXC;go_wp2_with (at_builtin;refine wpList_append_own_none rfl _ _ 45 rfl w.heap.size 39 iw 6 Tryz.underlying45 HI.out.1 (.slice o1 cur.length c1) cur.length (waysV cur) rfl HX1.out.o.row rfl ?_);go_wp2_with fail;go_roundw;case rel=>exact ⟨i+1,cur,oth,by go_num,by omega,HX1,HC1⟩
      case measure=>simp [intOf];omega
    · go_wp2_with (at_builtin;refine wpList_append_own_at _ rfl _ _ 45 rfl w.heap.size 39 iw (.agg #[.int .i64 0,.int .i64 0,.int .i64 0,.int .i64 0,.int .i64 0,.int .i64 0]) 6 48 Tryz.underlying45 HI.out.1 HI.out.2.1 HI.out.2.2.1 HI.out.2.2.2 rfl (by decide) (.slice o1 cur.length c1) cur.length (waysV cur) rfl HX1.out.o.row ⟨g7,0,none⟩ L.length c7 (waysV L) rfl (waysV_len L) (HXC.out.tr.cells rfl) (ways_one _) HM1.out HM2.out HM3.out ?_);intro v1 W2 hown hgrow _ hat;obtain ⟨o6,q6,rfl⟩:=owns_head hown;have HXN:=Lib.hid (HX1.out.push (Below.refl _ _) hown hgrow hat);clear hown hgrow hat HX1 HXC;go_wp2_with fail;go_roundw;case rel=>exact ⟨i+1,cur ++ L,oth,by go_num,by omega,HXN,HC1⟩
      case measure=>simp [intOf];omega
  have hq5: (t.s.kind == 5)=false:=by simpa using k5
  have HCC:=Lib.hid (canBeDoneC wr HEK1.out HO.out HST.out HG.out HSF.out k7);obtain ⟨⟨can,er⟩,hcf⟩:∃r,canF E t.s=r:=⟨_,rfl⟩;rw [hcf] at HCC;simp only at HCC;go_wp2_with fail;refine HCC.out.mono ?_;rintro e W1 ⟨rfl,hb1⟩;cases can
  · have HXN:=Lib.hid (HX.out.below hb1);have HC1:Hid (cur ++ outF E esc (i+1) (l.drop (i+1))=outF E esc 0 l∧oth ++ elseF esc (i+1) (l.drop (i+1))=elseF esc 0 l∧cur.length≤ (i+1)*147456∧oth.length≤i+1):=Lib.hid (by
     obtain ⟨a1,a2,a3,a4⟩:=HC.out;rw [HDR.out] at a1 a2;rw [out_n k7 k5 hcf] at a1;rw [out_no k7] at a2;exact ⟨a1,a2,Nat.le_trans a3 (Nat.mul_le_mul_right _ (Nat.le_succ i)),by omega⟩)
    clear hb1 HCC hcf k7 k5 hq7 hq5 x0 HX HC;go_wp2_with fail;go_roundw;case rel=>exact ⟨i+1,cur,oth,by go_num,by omega,HXN,HC1⟩
    case measure=>simp [intOf];omega
  have HM1:Hid (cur.length+1≤maxLen):=Lib.hid (by have:=HC.out.2.2;unfold maxLen;omega);have HM2:Hid ((cur.length+1)*48≤140737488355328):=Lib.hid (by have:=HC.out.2.2;omega);have HX1:=Lib.hid (HX.out.below hb1);have HA:=Lib.hid (aloneC esc i er W1);have HC1:Hid ((cur ++ [aloneW esc i er]) ++ outF E esc (i+1) (l.drop (i+1))=outF E esc 0 l∧oth ++ elseF esc (i+1) (l.drop (i+1))=elseF esc 0 l∧ (cur ++ [aloneW esc i er]).length≤ (i+1)*147456∧oth.length≤i+1):=Lib.hid (by
   obtain ⟨a1,a2,a3,a4⟩:=HC.out;rw [HDR.out] at a1 a2;rw [out_y k7 k5 hcf] at a1;rw [out_no k7] at a2;exact ⟨by rw [←a1,List.append_assoc],a2,by rw [List.length_append,List.length_singleton];omega,by omega⟩)
  clear hb1 HCC hcf k7 k5 hq7 hq5 x0 HX HC;go_wp2_with fail;refine HA.out.mono ?_;rintro e W2 ⟨rfl,hb2⟩;have HX2:=Lib.hid (HX1.out.below hb2);have HM3:Hid (∀o,w.heap.size≤ (W2.alloc o).heap.size):=Lib.hid fun o=>by have:=HX2.out.o.bel.size;simp;omega
  clear hb2 HA HX1;go_wp2_with (at_builtin;refine wpList_append_own_at _ rfl _ _ 45 rfl w.heap.size 39 iw (.agg #[.int .i64 0,.int .i64 0,.int .i64 0,.int .i64 0,.int .i64 0,.int .i64 0]) 6 48 Tryz.underlying45 HI.out.1 HI.out.2.1 HI.out.2.2.1 HI.out.2.2.2 rfl (by decide) (.slice o1 cur.length c1) cur.length (waysV cur) rfl (HX2.out.o.row.alloc _) ⟨W2.heap.size,0,none⟩ 1 1 (waysV [aloneW esc i er]) rfl rfl (arr_at _ _ _ _ rfl) (ways_one _) HM1.out HM2.out (HM3.out _) ?_);intro v1 W3 hown hgrow _ hat;obtain ⟨o6,q6,rfl⟩:=owns_head hown;have HXN:=Lib.hid (HX2.out.push (ball _) hown hgrow (hat.imp id fun e=>e.trans (by simp)));clear hown hgrow hat HX2;go_wp2_with fail;go_roundw;case rel=>exact ⟨i+1,cur ++ [aloneW esc i er],oth,by go_num,by omega,HXN,HC1⟩
  case measure=>simp [intOf];omega
end Go.Proofs.YthfldokfnjpkmaaGreatDoor
namespace Go.Proofs.YthfldokfnjpkmaaGreatDoor
open Go.ChangeShapes Go.WideShapes Go.ChangeAt Go.RowKit
def NoneP (w:World):Prop:=w.cell? ⟨0,0,none⟩=some (.int .i64 (-1))∧w.cell? ⟨0,1,none⟩=some (.int .i64 (-1))∧w.cell? ⟨0,2,none⟩=some (.int .i64 (-1))∧w.cell? ⟨0,3,none⟩=some (.int .i64 (-1))∧w.cell? ⟨0,4,none⟩=some (.int .i64 (-1))∧w.cell? ⟨0,5,none⟩=some (.int .i64 0)
theorem NoneP.below {w w':World} (h:NoneP w) (hb:Below w.heap.size w w'):NoneP w':=by
 have key:∀i v,w.cell? ⟨0,i,none⟩=some v→w'.cell? ⟨0,i,none⟩=some v:=fun i v hv=>(hb.cell (World.block_lt_of_cell? w _ hv)).trans hv
 obtain ⟨h0,h1,h2,h3,h4,h5⟩:=h;exact ⟨key _ _ h0,key _ _ h1,key _ _ h2,key _ _ h3,key _ _ h4,key _ _ h5⟩
def oneW (E:EnvD) (esc:Int) (l:List TransD):List WayD × Bool:=(listedF E esc l,decide (0 < (listedF E esc l).length))
theorem xWays_is (E:EnvD):∀ (l:List (List TransD)) (i:Int) (o:List TransD),xWaysL E i l o=listsF (oneW E) i l o
 | [],i,o=>rfl
 | e :: r,i,o=>by
   rw [xWaysL,listsF,xWays_is E r (i+1) o];by_cases h:0 < (listedF E i e).length
   · rw [if_pos h,if_pos (by simpa [oneW] using h)];rfl
   · rw [if_neg h,if_neg (by simpa [oneW] using h)];have : (oneW E i e).1= []:=List.eq_nil_of_length_eq_zero (show (listedF E i e).length=0 by omega);rw [this,List.nil_append]
theorem TX.store {ob:Nat} {W0 W W1:World} {cur L:List WayD} {v1:Value} (k:TX ob W0 cur W) (hb:Below W.heap.size W W1) (hr:W1.ownsRow W.heap.size 39 6 v1 L.length (waysV L)):
 ((∃v,W1.cell? ⟨ob,0,none⟩=some v)∧W1.frozen? ⟨ob,0,none⟩=false)∧TX ob W0 L (W1.setCell ⟨ob,0,none⟩ v1)∧ (W1.setCell ⟨ob,0,none⟩ v1).cell? ⟨ob,0,none⟩=some v1:=by
 obtain ⟨v,h1,h2⟩:=k.box;have hlt:=lt_of_block h1;have h3:=(hb.block _ hlt).trans h1;have h4:=heap_setCell_same _ _ 0 _ _ v1 h3;refine ⟨⟨⟨v,(cell_of_row _ _ 0 _ _ _ h3).trans rfl⟩,frozen_of_row _ _ _ _ _ h3⟩,⟨(k.bel.trans (hb.mono (Nat.le_of_lt hlt))).setCell (Nat.le_refl _) _,v1,by rw [h4];rfl,owns_set (hr.mono hlt) _ _ (fun e=>by have:=(hr.lt ob e).1;omega)⟩,(cell_of_row _ _ 0 _ _ _ h4).trans rfl⟩
theorem run_ways1 (args:Array Value) (w:World): (callFunc 42 args).run Tryz.prog w= .ok (.enter 42 args) w:=by
 have h1: (Tryz.f42.name == "runtime.NumGoroutine")=false:=by kernel_rfl
 have h2:Tryz.f42.body.isNone=false:=by kernel_rfl
 simp only [beq_eq_false_iff_ne,ne_eq] at h1;have h3:¬Tryz.f42.body=none:=by
  intro e;rw [e] at h2;cases h2
 simp [callFunc,go_sem,Tryz.func42,h1,h3]
structure WB (B ob pe eb:Nat) (h:MH) (hs:SH) (ao:Option Addr) (ac:Nat) (E:EnvD) (W0:World):Prop where
 blk:W0.heap[pe]? =some (.cells (eCells h hs ao ac E) 36 (0,0))
 ed:ED B W0 h hs ao E
 ok:Ok E
 ebx:W0.cell? ⟨eb,0,none⟩=some (.pointer (some ⟨pe,0,none⟩))
 lt:eb < ob∧pe < ob∧B≤ob
set_option maxRecDepth 100000 in
set_option maxHeartbeats 4000000 in
theorem waysOneC {B ob pe eb lc:Nat} {h:MH} {hs:SH} {ao lo:Option Addr} {ac:Nat} {E:EnvD} {l:List TransD} {cur:List WayD} {W0:World} (esc:Int) (W:World) (hT:WB B ob pe eb h hs ao ac E W0) (hX:TX ob W0 cur W) (hl:Row B lo 9 (transAt B W0) l) (hF:∀t ∈ l,StF E.m t.s) (hn:l.length≤1024):
 Calls Tryz.prog 42 #[.int .i64 esc,.slice lo l.length lc,.pointer (some ⟨eb,0,none⟩),.pointer (some ⟨ob,0,none⟩)] W fun e W'=>e= .returned (.bool (decide (0 < (listedF E esc l).length)))∧TX ob W0 (listedF E esc l) W':=by
 have hbb:=hX.bel.mono hT.lt.2.2;have HC:=Lib.hid (listedC (lc:=lc) esc W ((hX.bel.block pe hT.lt.2.1).trans hT.blk) (by have:=hX.lt;have:=hT.lt;omega) (hT.ed.below hbb) hT.ok (hl.mono fun _ _ _ hg=>transAt.below hbb hg) hF hn);have x0:W.cell? ⟨eb,0,none⟩=some (.pointer (some ⟨pe,0,none⟩)):=(hX.bel.cell (p:=⟨eb,0,none⟩) hT.lt.1).trans hT.ebx;have HX:=Lib.hid hX;obtain ⟨L,hL⟩:∃L,listedF E esc l=L:=⟨_,rfl⟩;rw [hL] at HC ⊢;clear hT hX hl hF hn hbb hL;go_enter Tryz.func42,Tryz.ntmps42;go_wp2_with fail;refine HC.out.mono ?_;rintro e W1 ⟨v,rfl,hr,hb⟩;obtain ⟨o1,c1,rfl⟩:=owns_head hr;obtain ⟨⟨⟨u,y0⟩,y1⟩,hx2,y2⟩:=HX.out.store hb hr;have HX2:=Lib.hid hx2;clear hr hb hx2 HC HX x0;have HD:Hid (decide (0 < L.length)=decide ((0:Int) < L.length)):=Lib.hid (by rw [decide_eq_decide];omega);go_upto_region 2 with fail
 generalize W1.setCell ⟨ob,0,none⟩ (.slice o1 L.length c1)=W2 at HX2 y2 ⊢;clear y0 y1;go_wp2_with fail;go_ret;exact ⟨by first | rfl | (rw [HD.out];rfl),HX2.out⟩
end Go.Proofs.YthfldokfnjpkmaaGreatDoor
