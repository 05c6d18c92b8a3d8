/- A variable is made another number, in a state that is one's own. -/
import Derived.Test.YtbhgdlfndamklaaGreatDoorS44
import Derived.Test.YtbhgdlfndamklaaGreatDoorS43
set_option linter.unusedVariables false
set_option linter.unusedSimpArgs false
namespace Go.Proofs.YtbhgdlfndamklaaGreatDoor
open Go.ChangeShapes Go.WideShapes Go.ChangeAt Go.RowKit
def typesL (E:EnvD) (pid:Int):List (Int × Bool):=if pid < 0 then E.m.globals else (E.m.procs[(typeOfP E pid).toNat]?.map (·.frame)).getD []
def fitAt (E:EnvD) (pid slot v:Int):Int:=val.fitI ((typesL E pid).getD slot.toNat (0,false)).1 ((typesL E pid).getD slot.toNat (0,false)).2 v
def putFrame (s:Nat) (v:Int) (p:ProcessD):ProcessD:=⟨p.type,p.loc,p.prio,p.frame.set s v⟩
def putSlot (s:StateD) (pid slot v:Int):StateD:=if pid < 0 then ⟨s.globals.set slot.toNat v,s.chans,s.procs,s.last,s.alone,s.claim⟩ else ⟨s.globals,s.chans,s.procs.modify pid.toNat (putFrame slot.toNat v),s.last,s.alone,s.claim⟩
def setS (E:EnvD) (pid slot v:Int):StateD:=putSlot E.s pid slot (fitAt E pid slot v)
theorem ints_set (l:List Int) (i:Nat) (v:Int):intsV (l.set i v)= (intsV l).set i (.int .i64 v):=by
 unfold intsV;rw [List.map_set]
section
variable {R:Nat × Nat × Nat→RowS} {hs:SH} {s:StateD} {B:Nat} {w:World}
theorem Spl.putG (h:Spl R hs s) (slot v:Int) {pid:Int} (hp:pid < 0):Spl (upd R kG ⟨(R kG).e,(R kG).size,(R kG).v,(R kG).n,(R kG).xs.set slot.toNat (.int .i64 v)⟩) hs (putSlot s pid slot v):=by
 unfold putSlot;rw [if_pos hp];refine ⟨?_, ?_, ?_⟩
 · rw [upd_same,h.g];simp only [List.length_set,ints_set]
 · exact IsChans.of h.c (upd_ne _ _ (k_ne (.inl (by simp [kG,kC])))) (fun i=>upd_ne _ _ (k_ne (.inl (by simp [kG,kQ])))) (fun i j=>upd_ne _ _ (k_ne (.inl (by simp [kG,kM]))))
 · obtain ⟨xs,hx,hi⟩:=h.p;refine ⟨xs,(upd_ne _ _ (k_ne (.inl (by simp [kG,kP])))).trans hx,fun i hi'=>PrOk.of (hi i hi') (upd_ne _ _ (k_ne (.inl (by simp [kG,kF])))) rfl rfl rfl rfl⟩
theorem Spl.putF (h:Spl R hs s) (slot v:Int) {k:Nat} (hk:k < s.procs.length):Spl (upd R (kF k) ⟨(R (kF k)).e,(R (kF k)).size,(R (kF k)).v,(R (kF k)).n,(R (kF k)).xs.set slot.toNat (.int .i64 v)⟩) hs (putSlot s k slot v):=by
 unfold putSlot;rw [if_neg (by omega),Int.toNat_natCast];obtain ⟨xs,hx,hi⟩:=h.p;refine ⟨?_, ?_, ?_⟩
 · rw [upd_ne _ _ (k_ne (.inl (by simp [kG,kF])))];exact h.g
 · exact IsChans.of h.c (upd_ne _ _ (k_ne (.inl (by simp [kF,kC])))) (fun i=>upd_ne _ _ (k_ne (.inl (by simp [kF,kQ])))) (fun i j=>upd_ne _ _ (k_ne (.inl (by simp [kF,kM]))))
 · refine ⟨xs, ?_,fun i hi'=> ?_⟩
   · rw [upd_ne _ _ (k_ne (.inl (by simp [kF,kP])))];simp only [List.length_modify];exact hx
   · simp only [List.length_modify] at hi';obtain ⟨a,b,c,d,e⟩:=hi i hi';have hg: (s.procs.modify k (putFrame slot.toNat v))[i]'(by rw [List.length_modify];exact hi')=if k=i then putFrame slot.toNat v s.procs[i] else s.procs[i]:=List.getElem_modify ..
     dsimp only;rw [hg];by_cases hik:k=i
     · subst hik;rw [if_pos rfl];refine ⟨a,b,c, ?_, ?_⟩
       · rw [upd_same];exact d
       · rw [upd_same];obtain ⟨o,c2,h2⟩:=e;refine ⟨o,c2, ?_⟩;rw [h2];simp only [putFrame,List.length_set,ints_set]
     · rw [if_neg hik];have hne:upd R (kF k) ⟨(R (kF k)).e,(R (kF k)).size,(R (kF k)).v,(R (kF k)).n,(R (kF k)).xs.set slot.toNat (.int .i64 v)⟩ (kF i)=R (kF i):=upd_ne _ _ (k_ne (.inr (.inl (by omega))));exact ⟨a,b,c,by rw [hne];exact d,by rw [hne];exact e⟩
end
theorem frame_own {R:Nat × Nat × Nat→RowS} {hs:SH} {s:StateD} {B:Nat} {w:World} (ho:Own B w R) (h:Spl R hs s) {k:Nat} (hk:k < s.procs.length):
 ∃g fo fc,hs.po=some ⟨g,0,none⟩∧g < w.heap.size∧w.cell? ⟨g,k*4,none⟩=some (.int .i64 s.procs[k].type)∧w.cell? ⟨g,k*4+3,none⟩=some (.slice fo s.procs[k].frame.length fc)∧R (kF k)= ⟨2,1,.slice fo s.procs[k].frame.length fc,s.procs[k].frame.length,intsV s.procs[k].frame⟩:=by
 obtain ⟨xs,hx,hi⟩:=h.p;have hr:=ho.row kP;rw [hx] at hr;dsimp only at hr;obtain ⟨g,cap,e⟩:=Joins.ownsRow_form hr (by omega);injection e with e1 e2 e3
 obtain ⟨x0,x1,x2,x3,fo,fc,hf⟩:=hi k hk;rw [e1] at hr;rw [hf] at x3;exact ⟨g,fo,fc,e1,(hr.lt g rfl).2,(hr.cellAt _ (by omega)).trans x0,(hr.cellAt _ (by omega)).trans x3,hf⟩
def SetP (B2:Nat) (w:World) (hs:SH) (E:EnvD) (r:Int × Int × Int) (v:Int) (e:Ending) (w':World):Prop:=
 e= .returned (.int .i64 r.2.2)∧ (r.2.2≠0→Below w.heap.size w w')∧ (r.2.2=0→SO B2 w' hs (setS E r.1 r.2.1 v)∧Below B2 w w')
set_option maxRecDepth 100000 in
theorem slotsG {B pe:Nat} {h:MH} {hs:SH} {ao:Option Addr} {ac:Nat} {E:EnvD} (pid:Int) (w:World) (hk:Ek B w pe h hs ao ac E) (hn:pid < 0):
 Calls Tryz.prog 42 #[.pointer (some ⟨pe,0,none⟩),.int .i64 pid] w fun e w'=>e= .returned (.slice hs.go E.s.globals.length hs.gc)∧w=w':=by
 have c7:=hk.sk.c0;clear hk;have hd:decide (pid < 0)=true:=decide_eq_true hn;go_enter Tryz.func42,Tryz.ntmps42;go_wp2_with fail;go_ret;exact ⟨rfl,rfl⟩
set_option maxRecDepth 100000 in
theorem slotsF {B pe:Nat} {h:MH} {hs:SH} {ao:Option Addr} {ac:Nat} {E:EnvD} {k g n:Nat} {fo:Option Addr} {fc:Nat} (w:World) (hk:Ek B w pe h hs ao ac E) (hkl:k < E.s.procs.length) (hpo:hs.po=some ⟨g,0,none⟩) (hc:w.cell? ⟨g,k*4+3,none⟩=some (.slice fo n fc)):
 Calls Tryz.prog 42 #[.pointer (some ⟨pe,0,none⟩),.int .i64 k] w fun e w'=>e= .returned (.slice fo n fc)∧w=w':=by
 have c9:=hk.sk.c2;have hpl:=hk.sk.sd.procs.1;rw [hpo] at c9;clear hk hpo;have hkz: (0:Int)≤k:=by omega
 have hki: (k:Int) < E.s.procs.length:=by omega
 have hn:¬ (k:Int) < 0:=by omega
 have hd:decide ((k:Int) < 0)=false:=decide_eq_false hn;clear hn;go_enter Tryz.func42,Tryz.ntmps42;go_wp2_with fail;go_ret;exact ⟨rfl,rfl⟩
theorem types_len {E:EnvD} (hok:Ok E) {q:Int} (hq:q < E.s.procs.length): (typesL E q).length= (slotsL E q).length:=by
 unfold typesL slotsL;by_cases hn:q < 0
 · rw [if_pos hn,if_pos hn];have:=(may_globals hok.may).1;unfold fitsL at this;simp only [Bool.and_eq_true,decide_eq_true_eq] at this;exact this.1.symm
 · rw [if_neg hn,if_neg hn];obtain ⟨p,hp⟩:∃p,E.s.procs[q.toNat]? =some p:=⟨_,List.getElem?_eq_getElem (by omega)⟩;obtain ⟨t,ht,hf,-⟩:=may_frame hok.may (List.mem_of_getElem? hp);unfold fitsL at hf;simp only [Bool.and_eq_true,decide_eq_true_eq] at hf;unfold typeOfP;rw [hp];simp only [Option.map_some,Option.getD_some];rw [ht];exact hf.1.symm
set_option maxHeartbeats 4000000 in
set_option maxRecDepth 100000 in
theorem setC {B pe B2:Nat} {h:MH} {hs:SH} {ao:Option Addr} {ac:Nat} {E:EnvD} {R:Nat × Nat × Nat→RowS} {p:Nat} {x:ExprD} (v:Int) (w:World) (hk:Ek B w pe h hs ao ac E) (hok:Ok E) (hx:E.m.exprs[p]? =some x) (ho:Own B2 w R) (hsp:Spl R hs E.s) (hB2:B2≤w.heap.size):
 Calls Tryz.prog 31 #[.pointer (some ⟨pe,0,none⟩),.int .i64 p,.int .i64 v] w (SetP B2 w hs E (rslotB E (evE E) x) v):=by
 have HK:=Lib.hid hk;have HO:=Lib.hid hok;have HOW:=Lib.hid ho;have HSP:=Lib.hid hsp;have hvf:=fun h2=>var_facts hok hx h2
 have HS:=Lib.hid (slotC w hk hok (evalC hok) hx (fun h2=>(hvf h2).1) (fun h2 hs=>by have:=(hvf h2).2.1 hs;have:=(List.getElem?_eq_some_iff.1 hx).1;omega) (fun h2 d hd=>by have:=(hvf h2).2.2 d hd;have:=(List.getElem?_eq_some_iff.1 hx).1;omega));obtain ⟨⟨q,sl,er⟩,hr⟩:∃r,rslotB E (evE E) x=r:=⟨_,rfl⟩;have HSR:Hid (er=0→q < E.s.procs.length∧ (0≤q∨q < 0)∧∃k:Nat,sl=k∧k < (slotsL E q).length):=Lib.hid (fun h0=>by
  have h2:x.op=2:=by
   apply Classical.byContradiction;intro h2;unfold rslotB at hr;rw [if_pos h2] at hr;injection hr with _ hr
   injection hr with _ hr
   omega
  have:=slot_range (ev:=evE E) hok (hvf h2).1 (by rw [hr];exact h0);rw [hr] at this;exact ⟨this.1,by omega,this.2⟩)
 have HB2:=Lib.hid hB2;have hr':rslotB E (evalF E E.m.exprs.length) x= (q,sl,er):=hr;rw [hr'] at HS;rw [hr];clear hk hok hx ho hsp hvf hr hr' hB2;go_enter Tryz.func31,Tryz.ntmps31;go_wp2_with fail;refine HS.out.mono ?_;rintro e W1 ⟨rfl,hb1⟩;have HB1:=Lib.hid hb1;have HK1:=Lib.hid (HK.out.below hb1);have HOW1:=Lib.hid (HOW.out.below hb1);clear hb1 HS HK HOW;by_cases h0:er=0
 · have hd0: (er != 0)=false:=by rw [bne_eq_false_iff_eq];exact h0
   subst h0;obtain ⟨hqr,-,k,rfl,hkl⟩:=HSR.out rfl;have hkz: (0:Int)≤k:=by omega
   have hlt:k < (typesL E q).length:=by rw [types_len HO.out hqr];exact hkl
   obtain ⟨⟨tb,ts⟩,hty⟩:∃t,(typesL E q)[k]=t:=⟨_,rfl⟩;have HF:Hid (fitAt E q k v=val.fitI tb ts v):=Lib.hid (by unfold fitAt;rw [Int.toNat_natCast,List.getD_eq_getElem?_getD,List.getElem?_eq_getElem hlt,hty];rfl);obtain ⟨z,hz⟩:∃z,val.fitI tb ts v=z:=⟨_,rfl⟩;have HFT:=Lib.hid (fun W=>val.fit_any tb v ts W);rw [hz] at HF;have HZE:=Lib.hid hz;clear hz;by_cases hn:q < 0
   · have hd1:decide (0≤q)=false:=decide_eq_false (by omega);have hTy:typesL E q=E.m.globals:=by unfold typesL;rw [if_pos hn]
     have hSl:slotsL E q=E.s.globals:=by unfold slotsL;rw [if_pos hn]
     have hlt':k < E.m.globals.length:=by rw [←hTy];exact hlt
     have hlg:k < E.s.globals.length:=by rw [←hSl];exact hkl
     have hgi: (k:Int) < E.m.globals.length:=by omega
     have hgj: (k:Int) < E.s.globals.length:=by omega
     have hgl:=HK1.out.ck.md.globals.1;have hgl2:=HK1.out.sk.sd.globals.1;obtain ⟨g,off,ho,hg,ht⟩:=HK1.out.ck.md.globals.cell hlt';have hel:E.m.globals[k]= (tb,ts):=by rw [←hty];congr 1;exact hTy.symm
     rw [hel] at ht;have c0:=HK1.out.ck.c0;rw [ho] at c0;obtain ⟨t0,t1⟩:=ht;have hrow:=HOW1.out.row kG;rw [HSP.out.g] at hrow;dsimp only at hrow;obtain ⟨gb,cap,e⟩:=Joins.ownsRow_form hrow (by omega);injection e with e1 e2 e3
     have HGB:=Lib.hid e1;rw [e1] at hrow;have hgb:=(hrow.lt gb rfl).2;have s0:=hrow.cellAt k (by omega);have s1:=hrow.frozenAt k;have hvk: (intsV E.s.globals)[k]? =some (.int .i64 E.s.globals[k]):=by simp [intsV,hlg]
     rw [hvk] at s0;have HSG:=Lib.hid (fun W hk=>slotsG (B:=B) (pe:=pe) (h:=h) (hs:=hs) (ao:=ao) (ac:=ac) (E:=E) q W hk hn);have HSPP:=Lib.hid (HSP.out.putG (k:Int) z hn);have HN:=Lib.hid hn;have HGW:=Lib.hid (And.intro hg hgb);have HBW1:=Lib.hid HK1.out.leW;clear hvk hrow e1 e2 e3 hel hty hTy hSl hlt hkl hn ho HSR;go_wp2_with fail;have t0':W1.drew.cell? ⟨g,off+k*2,none⟩=some (.int .i64 tb):=t0;have t1':W1.drew.cell? ⟨g,off+k*2+1,none⟩=some (.bool ts):=t1;have HS0:=Lib.hid (And.intro s0 s1);clear t0 t1 s0 s1
     go_region_law
      (first
        | (go_simp;go_at_call 42;refine (HSG.out _ (HK1.out.below (by first | exact (Below.refl _ _).drew | exact HBF.out))).mono ?_;rintro e w1 ⟨rfl,rfl⟩;rw [HGB.out])
        | (go_simp;go_at_call 61;refine (HFT.out _).mono ?_;rintro e w2 ⟨rfl,hb2⟩;rw [HZE.out];have HBF:Hid (Below W1.heap.size W1 w2):=Lib.hid ((Below.refl _ _).drew.trans hb2);have m1:w2.cell? ⟨gb,k,none⟩=some (.int .i64 E.s.globals[k]):=(HBF.out.cell (by exact HGW.out.2)).trans HS0.out.1;have m2:w2.frozen? ⟨gb,k,none⟩=false:=(HBF.out.frozen (by exact HGW.out.2)).trans HS0.out.2;clear hb2))
     all_goals (
      have HOO:=Lib.hid ((HOW1.out.below HBF.out).set kG (g:=gb) (n:=E.s.globals.length) (c:=hs.gc) (by rw [HSP.out.g,HGB.out]) (by rw [HSP.out.g]) k (.int .i64 z));have HBB:Hid (Below B2 w (w2.setCell ⟨gb,k,none⟩ (.int .i64 z))):=Lib.hid (((HB1.out.mono HB2.out).trans (HBF.out.mono (Nat.le_trans HB2.out HB1.out.size))).setCell (by have:=(HOW1.out.row kG).lt gb (by rw [HSP.out.g,HGB.out];rfl);exact this.1) _);clear t0' t1' m1 m2;have HE:Hid (SetP B2 w hs E (q,(k:Int),0) v (.returned (.int .i64 0)) (w2.setCell ⟨gb,k,none⟩ (.int .i64 z))):=Lib.hid ⟨rfl,fun h=>absurd rfl h,fun _=>⟨⟨_,HOO.out,by unfold setS;rw [HF.out];exact HSPP.out⟩,HBB.out⟩⟩;clear HOO HBB HBF HSPP
      try simp only [Exit.inBlock,Exit.then]
      go_wp2_with fail;go_ret;exact HE.out)
   · obtain ⟨j,rfl⟩:∃j:Nat,q=j:=⟨q.toNat,by omega⟩;have hjl:j < E.s.procs.length:=by omega
     have hji: (j:Int) < E.s.procs.length:=by omega
     have hj0: (0:Int)≤j:=by omega
     have hd1:decide (0≤ (j:Int))=true:=decide_eq_true hj0;obtain ⟨gp,fo,fc,hpo,hgp,hc0,hc3,hkF⟩:=frame_own HOW1.out HSP.out hjl;obtain ⟨t,ht,hfl,-,-,hty0⟩:=may_frame HO.out.may (List.getElem_mem hjl);have htp:E.s.procs[j].type < E.m.procs.length:=by have:=(List.getElem?_eq_some_iff.1 ht).1;omega
     obtain ⟨tj,htj⟩:∃tj:Nat,E.s.procs[j].type=tj:=⟨E.s.procs[j].type.toNat,by omega⟩;rw [htj,Int.toNat_natCast] at ht;have htyp:typeOfP E j=tj:=by rw [typeOf_get (List.getElem?_eq_getElem hjl),htj]
     have hTy:typesL E j=t.frame:=by unfold typesL;rw [if_neg hn,htyp,Int.toNat_natCast,ht];rfl
     have hSl:slotsL E j=E.s.procs[j].frame:=by unfold slotsL;rw [if_neg hn,Int.toNat_natCast,List.getElem?_eq_getElem hjl];rfl
     have hlt':k < t.frame.length:=by rw [←hTy];exact hlt
     have hlg:k < E.s.procs[j].frame.length:=by rw [←hSl];exact hkl
     have htl:tj < E.m.procs.length:=by omega
     have hti: (tj:Int) < E.m.procs.length:=by omega
     have ht0: (0:Int)≤tj:=by omega
     have hgi: (k:Int) < t.frame.length:=by omega
     have hgj: (k:Int) < E.s.procs[j].frame.length:=by omega
     have hpl:=HK1.out.ck.md.procs.1;have hpl2:=HK1.out.sk.sd.procs.1;obtain ⟨gm,offm,hom,hgm,hta⟩:=HK1.out.ck.md.procs.get ht;obtain ⟨fto,ftc,ct,hrt⟩:=hta.frame;have hfl1:=hrt.1;obtain ⟨g,off,ho,hg,htt⟩:=hrt.cell hlt';have hel:t.frame[k]= (tb,ts):=by rw [←hty];congr 1;exact hTy.symm
     rw [hel] at htt;rw [ho] at ct;have c4:=HK1.out.ck.c4;rw [hom] at c4;have c9:=HK1.out.sk.c2;rw [hpo] at c9;rw [htj] at hc0;obtain ⟨t0,t1⟩:=htt;have hrow:=HOW1.out.row (kF j);rw [hkF] at hrow;dsimp only at hrow;obtain ⟨gb,cap,e⟩:=Joins.ownsRow_form hrow (by omega);injection e with e1 e2 e3
     have HGB:=Lib.hid e1;have HKF:=Lib.hid hkF;rw [e1] at hrow;have hgb:=(hrow.lt gb rfl).2;have s0:=hrow.cellAt k (by omega);have s1:=hrow.frozenAt k;have hvk: (intsV E.s.procs[j].frame)[k]? =some (.int .i64 E.s.procs[j].frame[k]):=by simp [intsV,hlg]
     rw [hvk] at s0;have HSG:=Lib.hid (fun (W:World) (hk:Ek B W pe h hs ao ac E) (hc:W.cell? ⟨gp,j*4+3,none⟩=some (.slice fo E.s.procs[j].frame.length fc))=>slotsF W hk hjl hpo hc);have HSPP:=Lib.hid (HSP.out.putF (k:Int) z hjl);have HGW:=Lib.hid (And.intro hgp hgb);have HBW1:=Lib.hid HK1.out.leW;have HC3:=Lib.hid hc3;have HS0:=Lib.hid (And.intro s0 s1);have HT01:=Lib.hid (And.intro t0 (And.intro t1 hg));clear hvk hrow e1 e2 e3 hel hty hTy hSl hlt hkl hn ho hom hpo hkF hc3 ht htyp htj hty0 htp hfl hta hrt s0 s1 t0 t1 HSR;have c0:=HK1.out.ck.c0;go_wp2_with fail;clear c0;go_quiet (fail)
     try simp only [Exit.inBlock,Exit.then]
     go_wp2_with fail;have HB3:Hid (Below W1.heap.size W1 (W1.drewN nq)):=Lib.hid (bdrew (Below.refl _ _) nq);generalize W1.drewN nq=W3 at HB3 ⊢;clear ct c4 c9 hc0;have t0':W3.drew.cell? ⟨g,off+k*2,none⟩=some (.int .i64 tb):=(HB3.out.cell (by exact Nat.lt_of_lt_of_le HT01.out.2.2 HBW1.out)).trans HT01.out.1;have t1':W3.drew.cell? ⟨g,off+k*2+1,none⟩=some (.bool ts):=(HB3.out.cell (by exact Nat.lt_of_lt_of_le HT01.out.2.2 HBW1.out)).trans HT01.out.2.1
     go_region_law
      (first
        | (go_simp;go_at_call 42;refine (HSG.out _ (HK1.out.below (by first | exact HB3.out.drew | exact HBF.out)) (by first | exact (HB3.out.drew.cell HGW.out.1).trans HC3.out | exact (HBF.out.cell HGW.out.1).trans HC3.out)).mono ?_;rintro e w1 ⟨rfl,rfl⟩;rw [HGB.out])
        | (go_simp;go_at_call 61;refine (HFT.out _).mono ?_;rintro e w2 ⟨rfl,hb2⟩;rw [HZE.out];have HBF:Hid (Below W1.heap.size W1 w2):=Lib.hid (HB3.out.drew.trans (hb2.mono HB3.out.size));have m1:w2.cell? ⟨gb,k,none⟩=some (.int .i64 E.s.procs[j].frame[k]):=(HBF.out.cell (by exact HGW.out.2)).trans HS0.out.1;have m2:w2.frozen? ⟨gb,k,none⟩=false:=(HBF.out.frozen (by exact HGW.out.2)).trans HS0.out.2;clear hb2))
     all_goals (
      have HOO:=Lib.hid ((HOW1.out.below HBF.out).set (kF j) (g:=gb) (n:=E.s.procs[j].frame.length) (c:=fc) (by rw [HKF.out,HGB.out]) (by rw [HKF.out]) k (.int .i64 z));have HBB:Hid (Below B2 w (w2.setCell ⟨gb,k,none⟩ (.int .i64 z))):=Lib.hid (((HB1.out.mono HB2.out).trans (HBF.out.mono (Nat.le_trans HB2.out HB1.out.size))).setCell (by have:=(HOW1.out.row (kF j)).lt gb (by rw [HKF.out,HGB.out];rfl);exact this.1) _);clear t0' t1' m1 m2;have HE:Hid (SetP B2 w hs E ((j:Int),(k:Int),0) v (.returned (.int .i64 0)) (w2.setCell ⟨gb,k,none⟩ (.int .i64 z))):=Lib.hid ⟨rfl,fun h=>absurd rfl h,fun _=>⟨⟨_,HOO.out,by unfold setS;rw [HF.out];exact HSPP.out⟩,HBB.out⟩⟩;clear HOO HBB HBF HSPP
      try simp only [Exit.inBlock,Exit.then]
      go_wp2_with fail;go_ret;exact HE.out)
 · have hd0: (er != 0)=true:=by rw [bne_iff_ne];exact h0
   have HZ:=Lib.hid h0;go_wp2_with fail;go_ret;exact ⟨rfl,fun _=>HB1.out,fun h=>absurd h HZ.out⟩
end Go.Proofs.YtbhgdlfndamklaaGreatDoor
namespace Go.Proofs.YtbhgdlfndamklaaGreatDoor
open Go.ChangeShapes Go.WideShapes Go.ChangeAt Go.RowKit
def envStore (E:EnvD) (x v:Int):StateD × Int:=
 if envE E x≠0 then (zeroS,envE E x)
 else if (rslotB E (evE E) (exprNo E x)).2.2≠0 then (zeroS,(rslotB E (evE E) (exprNo E x)).2.2)
 else (setS E (rslotB E (evE E) (exprNo E x)).1 (rslotB E (evE E) (exprNo E x)).2.1 v,0)
def StoreP (w:World) (r:StateD × Int) (e:Ending) (w':World):Prop:=∃h,e= .returned (.tuple #[sV h r.1,.int .i64 r.2])∧SO w.heap.size w' h r.1∧Below w.heap.size w w'
def withS (E:EnvD) (s:StateD):EnvD:=⟨E.m,s,E.pid,E.timeout,E.able⟩
theorem sV_put (h:SH) (s:StateD) (pid slot v:Int):sV h (putSlot s pid slot v)=sV h s:=by
 unfold putSlot sV sCells;split <;> simp
def put6 (W:World) (b o:Nat) (h:SH) (s:StateD):World:=
 (((((W.setCell ⟨b,o,none⟩ (.slice h.go s.globals.length h.gc)).setCell ⟨b,o+1,none⟩ (.slice h.co s.chans.length h.cc)).setCell ⟨b,o+2,none⟩ (.slice h.po s.procs.length h.pc)).setCell ⟨b,o+3,none⟩ (.int .i64 s.last)).setCell ⟨b,o+4,none⟩ (.int .i64 s.alone)).setCell ⟨b,o+5,none⟩ (.int .i64 s.claim)
theorem put6_heap {W:World} {b o:Nat} {h:SH} {s:StateD} {cs:Array Value} {T:TypeId} (hb:W.heap[b]? =some (.cells cs T (0,0))): (put6 W b o h s).heap[b]? =some (.cells ((((((cs.setIfInBounds o (.slice h.go s.globals.length h.gc)).setIfInBounds (o+1) (.slice h.co s.chans.length h.cc)).setIfInBounds (o+2) (.slice h.po s.procs.length h.pc)).setIfInBounds (o+3) (.int .i64 s.last)).setIfInBounds (o+4) (.int .i64 s.alone)).setIfInBounds (o+5) (.int .i64 s.claim)) T (0,0)):=by
 unfold put6;exact heap_setCell_same _ _ _ _ _ _ (heap_setCell_same _ _ _ _ _ _ (heap_setCell_same _ _ _ _ _ _ (heap_setCell_same _ _ _ _ _ _ (heap_setCell_same _ _ _ _ _ _ (heap_setCell_same _ _ _ _ _ _ hb)))))
theorem put6_other {W:World} {b o c:Nat} {h:SH} {s:StateD} (hc:c≠b): (put6 W b o h s).heap[c]? =W.heap[c]? :=by
 unfold put6
 repeat rw [heap_setCell_other _ _ _ _ (by exact hc)]
theorem put6_below {W:World} {b o B:Nat} {h:SH} {s:StateD} (hB:B≤b):Below B W (put6 W b o h s):=
 ((((((Below.refl _ _).setCell hB _).setCell hB _).setCell hB _).setCell hB _).setCell hB _).setCell hB _
theorem put6_own {W:World} {b o B:Nat} {h:SH} {s:StateD} {R:Nat × Nat × Nat→RowS} (ho:Own B W R) (hb:b < B):Own B (put6 W b o h s) R:=
 (((((ho.low _ hb _).low _ hb _).low _ hb _).low _ hb _).low _ hb _).low _ hb _
theorem put6_size {W:World} {b o:Nat} {h:SH} {s:StateD}: (put6 W b o h s).heap.size=W.heap.size:=by
 unfold put6;simp
set_option maxHeartbeats 4000000 in
set_option maxRecDepth 100000 in
theorem eStoreC {B:Nat} {h:MH} {hs:SH} {ao:Option Addr} {ac:Nat} {E:EnvD} (x v:Int) (w:World) (hB:B≤w.heap.size) (hd:ED B w h hs ao E):
 Calls Tryz.prog 13 #[.agg (eCells h hs ao ac E),.int .i64 x,.int .i64 v] w (StoreP w (envStore E x v)):=by
 obtain ⟨W0,hW0⟩:∃W0,W0= (w.alloc (.cells (eCells h hs ao ac E) 36)).alloc (.cells #[.slice none 0 0,.slice none 0 0,.slice none 0 0,.int .i64 0,.int .i64 0,.int .i64 0] 33):=⟨_,rfl⟩;have hb0:Below w.heap.size w W0:=by rw [hW0];exact ((Below.refl _ _).alloc (Nat.le_refl _) _).alloc (by simp) _
 have hbox:W0.heap[w.heap.size]? =some (.cells (eCells h hs ao ac E) 36 (0,0)):=by rw [hW0];exact (Below.heap_alloc _ _ _ (by simp)).trans (heap_alloc_new _ _)
 have hres:W0.heap[w.heap.size+1]? =some (.cells #[.slice none 0 0,.slice none 0 0,.slice none 0 0,.int .i64 0,.int .i64 0,.int .i64 0] 33 (0,0)):=by
  have h:=heap_alloc_new (w.alloc (.cells (eCells h hs ao ac E) 36)) (.cells #[.slice none 0 0,.slice none 0 0,.slice none 0 0,.int .i64 0,.int .i64 0,.int .i64 0] 33);rw [World.size_alloc] at h;rw [hW0];exact h
 have HB0:=Lib.hid hb0;have HBOX:=Lib.hid hbox;have HRES:=Lib.hid hres;have HD:=Lib.hid (hd.below (hb0.mono hB));have HBB:=Lib.hid hB;have HCK:=Lib.hid (echeckC (ac:=ac) x W0 (Nat.le_trans hB hb0.size) HD.out);clear hd hb0 hbox hres;unfold eCells at HBOX HCK hW0 ⊢;go_enter Tryz.func13,Tryz.ntmps13;go_upto_region 1 with fail
 rw [←hW0];clear hW0;have e0:=(cell_of_row _ _ 0 _ _ _ HBOX.out).trans rfl;have e1:=(cell_of_row _ _ 1 _ _ _ HBOX.out).trans rfl;have e2:=(cell_of_row _ _ 2 _ _ _ HBOX.out).trans rfl;have e3:=(cell_of_row _ _ 3 _ _ _ HBOX.out).trans rfl;have e4:=(cell_of_row _ _ 4 _ _ _ HBOX.out).trans rfl;have e5:=(cell_of_row _ _ 5 _ _ _ HBOX.out).trans rfl;have e6:=(cell_of_row _ _ 6 _ _ _ HBOX.out).trans rfl;have e7:=(cell_of_row _ _ 7 _ _ _ HBOX.out).trans rfl;have e8:=(cell_of_row _ _ 8 _ _ _ HBOX.out).trans rfl;have e9:=(cell_of_row _ _ 9 _ _ _ HBOX.out).trans rfl;have e10:=(cell_of_row _ _ 10 _ _ _ HBOX.out).trans rfl;have e11:=(cell_of_row _ _ 11 _ _ _ HBOX.out).trans rfl;have e12:=(cell_of_row _ _ 12 _ _ _ HBOX.out).trans rfl;have e13:=(cell_of_row _ _ 13 _ _ _ HBOX.out).trans rfl;have e14:=(cell_of_row _ _ 14 _ _ _ HBOX.out).trans rfl;have e15:=(cell_of_row _ _ 15 _ _ _ HBOX.out).trans rfl;go_wp2_with fail;refine HCK.out.mono ?_;rintro e W1 ⟨rfl,hb1⟩;clear e0 e1 e2 e3 e4 e5 e6 e7 e8 e9 e10 e11 e12 e13 e14 e15;have HB1:=Lib.hid (HB0.out.trans (hb1.mono HB0.out.size));have HBOX1:=Lib.hid ((hb1.block _ (lt_of_block HBOX.out)).trans HBOX.out);have HRES1:=Lib.hid ((hb1.block _ (lt_of_block HRES.out)).trans HRES.out);have HD1:=Lib.hid (HD.out.below (hb1.mono (Nat.le_trans HBB.out HB0.out.size)));clear hb1 HCK HBOX HRES HD HB0;obtain ⟨er,her⟩:∃q,envE E x=q:=⟨_,rfl⟩;rw [her];by_cases h0:er=0
 · have hd0: (er != 0)=false:=by rw [bne_eq_false_iff_eq];exact h0
   subst h0;obtain ⟨hok,hx0,hxl⟩:=envE_ok her;obtain ⟨k,rfl⟩:∃k:Nat,x=k:=⟨x.toNat,by omega⟩;obtain ⟨xx,hxx⟩:∃y,E.m.exprs[k]? =some y:=⟨_,List.getElem?_eq_getElem (by omega)⟩;obtain ⟨⟨q,sl,er2⟩,hr⟩:∃r,rslotB E (evE E) xx=r:=⟨_,rfl⟩;have HV:Hid (envStore E k v=if er2≠0 then (zeroS,er2) else (setS E q sl v,0)):=Lib.hid (by
    unfold envStore exprNo;rw [her,if_neg (by simp),Int.toNat_natCast,hxx];simp only [Option.getD_some];rw [hr])
   have HOK:=Lib.hid hok;have HXX:=Lib.hid hxx;have HR:=Lib.hid hr;have hbx:=HBOX1.out;have s0:=(cell_of_row _ _ 7 _ _ _ hbx).trans rfl;have s1:=(cell_of_row _ _ 8 _ _ _ hbx).trans rfl;have s2:=(cell_of_row _ _ 9 _ _ _ hbx).trans rfl;have s3:=(cell_of_row _ _ 10 _ _ _ hbx).trans rfl;have s4:=(cell_of_row _ _ 11 _ _ _ hbx).trans rfl;have s5:=(cell_of_row _ _ 12 _ _ _ hbx).trans rfl;have HCP:=Lib.hid (copyC W1 (Nat.le_trans HBB.out HB1.out.size) HD1.out.sd (may_lensB hok.good hok.may));clear hbx hok hxx hr her;unfold sV sCells at HCP;go_wp2_with fail;refine HCP.out.mono ?_;rintro e W2 ⟨h2,rfl,hso,hb2⟩;clear s0 s1 s2 s3 s4 s5 HCP;obtain ⟨R,ho,hsp⟩:=hso;have HO:=Lib.hid ho;have HSP:=Lib.hid hsp;have HB2:=Lib.hid hb2;have HBOX2:=Lib.hid ((hb2.block _ (lt_of_block HBOX1.out)).trans HBOX1.out);have HRES2:=Lib.hid ((hb2.block _ (lt_of_block HRES1.out)).trans HRES1.out);clear ho hsp hb2;have s0:=(cell_of_row _ _ 7 _ _ _ HBOX2.out).trans rfl;have s1:=(cell_of_row _ _ 8 _ _ _ HBOX2.out).trans rfl;have s2:=(cell_of_row _ _ 9 _ _ _ HBOX2.out).trans rfl;have s3:=(cell_of_row _ _ 10 _ _ _ HBOX2.out).trans rfl;have s4:=(cell_of_row _ _ 11 _ _ _ HBOX2.out).trans rfl;have s5:=(cell_of_row _ _ 12 _ _ _ HBOX2.out).trans rfl;have t0:=frozen_of_row _ _ 7 _ _ HBOX2.out;have t1:=frozen_of_row _ _ 8 _ _ HBOX2.out;have t2:=frozen_of_row _ _ 9 _ _ HBOX2.out;have t3:=frozen_of_row _ _ 10 _ _ HBOX2.out;have t4:=frozen_of_row _ _ 11 _ _ HBOX2.out;have t5:=frozen_of_row _ _ 12 _ _ HBOX2.out;unfold sV sCells;go_upto_region 5 with fail
   clear s0 s1 s2 s3 s4 s5 t0 t1 t2 t3 t4 t5;obtain ⟨W3,hW3⟩:∃W3,W3=put6 W2 w.heap.size 7 h2 E.s:=⟨_,rfl⟩;have HW3:=Lib.hid hW3;unfold put6 at hW3;simp only [Nat.reduceAdd] at hW3;rw [←hW3];clear hW3;have hl1:w.heap.size < W1.heap.size:=lt_of_block HBOX1.out;have hl2:w.heap.size+1 < W1.heap.size:=lt_of_block HRES1.out;have HBOX3:Hid (W3.heap[w.heap.size]? =some (.cells (eCells h h2 ao ac E) 36 (0,0))):=Lib.hid (by rw [HW3.out,put6_heap HBOX2.out];rfl);have HRES3:Hid (W3.heap[w.heap.size+1]? =some (.cells #[.slice none 0 0,.slice none 0 0,.slice none 0 0,.int .i64 0,.int .i64 0,.int .i64 0] 33 (0,0))):=Lib.hid (by rw [HW3.out,put6_other (by omega)];exact HRES2.out);have HO3:Hid (Own W1.heap.size W3 R):=Lib.hid (by rw [HW3.out];exact put6_own HO.out hl1);have HB3:Hid (Below w.heap.size w W3):=Lib.hid (by rw [HW3.out];exact (HB1.out.trans (HB2.out.mono HB1.out.size)).trans (put6_below (Nat.le_refl _)));have HS3:Hid (W1.heap.size≤W3.heap.size):=Lib.hid (by rw [HW3.out,put6_size];exact HB2.out.size);have hB3:B≤W3.heap.size:=Nat.le_trans (Nat.le_trans HBB.out HB1.out.size) HS3.out;have HBW:Hid (Below B W1 W3):=Lib.hid (by rw [HW3.out];exact (HB2.out.mono (Nat.le_trans HBB.out HB1.out.size)).trans (put6_below HBB.out));have HED:Hid (ED W3.heap.size W3 h h2 ao E):=Lib.hid (by
    have h1:=HD1.out.below HBW.out;exact ⟨h1.md.lift hB3,(HSP.out.sd HO3.out (SD.lens HD1.out.sd)),h1.able.up hB3⟩)
   have HEK:=Lib.hid (Ek.ofW (T:=36) HBOX3.out (Nat.le_refl _) HED.out);have HSET:=Lib.hid (setC (B2:=W1.heap.size) v W3 HEK.out HOK.out HXX.out HO3.out HSP.out HS3.out);rw [HR.out] at HSET;clear HBOX2 HRES2 HO HW3 HBW HED HEK hB3 HB2;go_wp2_with fail;refine HSET.out.mono ?_;rintro e W4 ⟨rfl,hbad,hgood⟩;have HBAD:=Lib.hid hbad;have HGOOD:=Lib.hid hgood;clear hbad hgood HSET;by_cases h2':er2=0
   · have hd2: (er2 != 0)=false:=by rw [bne_eq_false_iff_eq];exact h2'
     subst h2';obtain ⟨hso4,hb4⟩:=HGOOD.out rfl;obtain ⟨R4,ho4,hsp4⟩:=hso4;have HO4:=Lib.hid ho4;have HSP4:=Lib.hid hsp4;have HB4:=Lib.hid hb4;have HBOX4:=Lib.hid ((hb4.block _ hl1).trans HBOX3.out);have HRES4:=Lib.hid ((hb4.block _ hl2).trans HRES3.out);clear ho4 hsp4 hb4;unfold eCells at HBOX4;have s0:=(cell_of_row _ _ 7 _ _ _ HBOX4.out).trans rfl;have s1:=(cell_of_row _ _ 8 _ _ _ HBOX4.out).trans rfl;have s2:=(cell_of_row _ _ 9 _ _ _ HBOX4.out).trans rfl;have s3:=(cell_of_row _ _ 10 _ _ _ HBOX4.out).trans rfl;have s4:=(cell_of_row _ _ 11 _ _ _ HBOX4.out).trans rfl;have s5:=(cell_of_row _ _ 12 _ _ _ HBOX4.out).trans rfl;have q0:=(cell_of_row _ _ 0 _ _ _ HRES4.out).trans rfl;have q1:=(cell_of_row _ _ 1 _ _ _ HRES4.out).trans rfl;have q2:=(cell_of_row _ _ 2 _ _ _ HRES4.out).trans rfl;have q3:=(cell_of_row _ _ 3 _ _ _ HRES4.out).trans rfl;have q4:=(cell_of_row _ _ 4 _ _ _ HRES4.out).trans rfl;have q5:=(cell_of_row _ _ 5 _ _ _ HRES4.out).trans rfl;have t0:=frozen_of_row _ _ 0 _ _ HRES4.out;have t1:=frozen_of_row _ _ 1 _ _ HRES4.out;have t2:=frozen_of_row _ _ 2 _ _ HRES4.out;have t3:=frozen_of_row _ _ 3 _ _ HRES4.out;have t4:=frozen_of_row _ _ 4 _ _ HRES4.out;have t5:=frozen_of_row _ _ 5 _ _ HRES4.out;have HSV:Hid (sV h2 (setS E q sl v)=sV h2 E.s):=Lib.hid (by unfold setS;exact sV_put _ _ _ _ _);go_wp2_with fail;refine bodyPost_ret (v:= .tuple #[sV h2 E.s,.int .i64 0]) (by simp [sV,sCells,results,Tryz.results13,go_sem,q0,q1,q2,q3,q4,q5,t0,t1,t2,t3,t4,t5]) rfl ?_;rw [HV.out,if_neg (by simp)];refine ⟨h2,by rw [HSV.out],⟨R4,(put6_own (b:=w.heap.size+1) (o:=0) (h:=h2) (s:=E.s) HO4.out hl2).mono (Nat.le_of_lt hl1),HSP4.out⟩, ?_⟩;exact (HB3.out.trans (HB4.out.mono (Nat.le_of_lt hl1))).trans (put6_below (b:=w.heap.size+1) (o:=0) (h:=h2) (s:=E.s) (by omega))
   · have hd2: (er2 != 0)=true:=by rw [bne_iff_ne];exact h2'
     have hb4:=HBAD.out h2';have HB4:=Lib.hid hb4;have HRES4:=Lib.hid ((hb4.block _ (lt_of_block HRES3.out)).trans HRES3.out);clear hb4;have q0:=(cell_of_row _ _ 0 _ _ _ HRES4.out).trans rfl;have q1:=(cell_of_row _ _ 1 _ _ _ HRES4.out).trans rfl;have q2:=(cell_of_row _ _ 2 _ _ _ HRES4.out).trans rfl;have q3:=(cell_of_row _ _ 3 _ _ _ HRES4.out).trans rfl;have q4:=(cell_of_row _ _ 4 _ _ _ HRES4.out).trans rfl;have q5:=(cell_of_row _ _ 5 _ _ _ HRES4.out).trans rfl;have t0:=frozen_of_row _ _ 0 _ _ HRES4.out;have t1:=frozen_of_row _ _ 1 _ _ HRES4.out;have t2:=frozen_of_row _ _ 2 _ _ HRES4.out;have t3:=frozen_of_row _ _ 3 _ _ HRES4.out;have t4:=frozen_of_row _ _ 4 _ _ HRES4.out;have t5:=frozen_of_row _ _ 5 _ _ HRES4.out;go_wp2_with fail;refine bodyPost_ret (v:= .tuple #[sV zeroH zeroS,.int .i64 er2]) (by simp [sV,sCells,zeroH,zeroS,results,Tryz.results13,go_sem,q0,q1,q2,q3,q4,q5,t0,t1,t2,t3,t4,t5]) rfl ?_;rw [HV.out,if_pos h2'];exact ⟨zeroH,rfl,SO.zero _ _,(HB3.out.trans (HB4.out.mono HB3.out.size)).trans (put6_below (b:=w.heap.size+1) (o:=0) (h:=zeroH) (s:=zeroS) (by omega))⟩
 · have hd0: (er != 0)=true:=by rw [bne_iff_ne];exact h0
   have HV:Hid (envStore E x v= (zeroS,er)):=Lib.hid (by unfold envStore;rw [her,if_pos h0]);have q0:=(cell_of_row _ _ 0 _ _ _ HRES1.out).trans rfl;have q1:=(cell_of_row _ _ 1 _ _ _ HRES1.out).trans rfl;have q2:=(cell_of_row _ _ 2 _ _ _ HRES1.out).trans rfl;have q3:=(cell_of_row _ _ 3 _ _ _ HRES1.out).trans rfl;have q4:=(cell_of_row _ _ 4 _ _ _ HRES1.out).trans rfl;have q5:=(cell_of_row _ _ 5 _ _ _ HRES1.out).trans rfl;have t0:=frozen_of_row _ _ 0 _ _ HRES1.out;have t1:=frozen_of_row _ _ 1 _ _ HRES1.out;have t2:=frozen_of_row _ _ 2 _ _ HRES1.out;have t3:=frozen_of_row _ _ 3 _ _ HRES1.out;have t4:=frozen_of_row _ _ 4 _ _ HRES1.out;have t5:=frozen_of_row _ _ 5 _ _ HRES1.out;go_wp2_with fail;refine bodyPost_ret (v:= .tuple #[sV zeroH zeroS,.int .i64 er]) (by simp [sV,sCells,zeroH,zeroS,results,Tryz.results13,go_sem,q0,q1,q2,q3,q4,q5,t0,t1,t2,t3,t4,t5]) rfl ?_;rw [HV.out];exact ⟨zeroH,rfl,SO.zero _ _,HB1.out.trans (put6_below (b:=w.heap.size+1) (o:=0) (h:=zeroH) (s:=zeroS) (by omega))⟩
end Go.Proofs.YtbhgdlfndamklaaGreatDoor
