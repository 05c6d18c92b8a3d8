/- A variable is made another number, in a state that is one's own. -/
import Derived.Test.YthfldokfnjpkmaaGreatDoorM32
import Derived.Test.YthfldokfnjpkmaaGreatDoorM24
import Derived.Test.YthfldokfnjpkmaaGreatDoorM20
set_option linter.unusedVariables false
set_option linter.unusedSimpArgs false
namespace Go.Proofs.YthfldokfnjpkmaaGreatDoor
open Go.ChangeShapes Go.WideShapes Go.ChangeAt Go.RowKit
def typesL (E:EnvD) (pid:Int):List (Int × Bool):=if pid < 0 then E.m.globals else (E.m.procs[(typeOfP E pid).toNat]?.map (·.frame)).getD []
def fitAt (E:EnvD) (pid slot v:Int):Int:=val.fitI ((typesL E pid).getD slot.toNat (0,false)).1 ((typesL E pid).getD slot.toNat (0,false)).2 v
def putFrame (s:Nat) (v:Int) (p:ProcessD):ProcessD:=⟨p.type,p.loc,p.prio,p.frame.set s v⟩
def putSlot (s:StateD) (pid slot v:Int):StateD:=if pid < 0 then ⟨s.globals.set slot.toNat v,s.chans,s.procs,s.last,s.alone,s.claim⟩ else ⟨s.globals,s.chans,s.procs.modify pid.toNat (putFrame slot.toNat v),s.last,s.alone,s.claim⟩
def setS (E:EnvD) (pid slot v:Int):StateD:=putSlot E.s pid slot (fitAt E pid slot v)
theorem ints_set (l:List Int) (i:Nat) (v:Int):intsV (l.set i v)= (intsV l).set i (.int .i64 v):=by
 unfold intsV;rw [List.map_set]
section
variable {R:Nat × Nat × Nat→RowS} {hs:SH} {s:StateD} {B:Nat} {w:World}
theorem Spl.putG (h:Spl R hs s) (slot v:Int) {pid:Int} (hp:pid < 0):Spl (upd R kG ⟨(R kG).e,(R kG).size,(R kG).v,(R kG).n,(R kG).xs.set slot.toNat (.int .i64 v)⟩) hs (putSlot s pid slot v):=by
 unfold putSlot;rw [if_pos hp];refine ⟨?_, ?_, ?_⟩
 · rw [upd_same,h.g];simp only [List.length_set,ints_set]
 · exact IsChans.of h.c (upd_ne _ _ (k_ne (.inl (by simp [kG,kC])))) (fun i=>upd_ne _ _ (k_ne (.inl (by simp [kG,kQ])))) (fun i j=>upd_ne _ _ (k_ne (.inl (by simp [kG,kM]))))
 · obtain ⟨xs,hx,hi⟩:=h.p;refine ⟨xs,(upd_ne _ _ (k_ne (.inl (by simp [kG,kP])))).trans hx,fun i hi'=>PrOk.of (hi i hi') (upd_ne _ _ (k_ne (.inl (by simp [kG,kF])))) rfl rfl rfl rfl⟩
theorem Spl.putF (h:Spl R hs s) (slot v:Int) {k:Nat} (hk:k < s.procs.length):Spl (upd R (kF k) ⟨(R (kF k)).e,(R (kF k)).size,(R (kF k)).v,(R (kF k)).n,(R (kF k)).xs.set slot.toNat (.int .i64 v)⟩) hs (putSlot s k slot v):=by
 unfold putSlot;rw [if_neg (by omega),Int.toNat_natCast];obtain ⟨xs,hx,hi⟩:=h.p;refine ⟨?_, ?_, ?_⟩
 · rw [upd_ne _ _ (k_ne (.inl (by simp [kG,kF])))];exact h.g
 · exact IsChans.of h.c (upd_ne _ _ (k_ne (.inl (by simp [kF,kC])))) (fun i=>upd_ne _ _ (k_ne (.inl (by simp [kF,kQ])))) (fun i j=>upd_ne _ _ (k_ne (.inl (by simp [kF,kM]))))
 · refine ⟨xs, ?_,fun i hi'=> ?_⟩
   · rw [upd_ne _ _ (k_ne (.inl (by simp [kF,kP])))];simp only [List.length_modify];exact hx
   · simp only [List.length_modify] at hi';obtain ⟨a,b,c,d,e⟩:=hi i hi';have hg: (s.procs.modify k (putFrame slot.toNat v))[i]'(by rw [List.length_modify];exact hi')=if k=i then putFrame slot.toNat v s.procs[i] else s.procs[i]:=List.getElem_modify ..
     dsimp only;rw [hg];by_cases hik:k=i
     · subst hik;rw [if_pos rfl];refine ⟨a,b,c, ?_, ?_⟩
       · rw [upd_same];exact d
       · rw [upd_same];obtain ⟨o,c2,h2⟩:=e;refine ⟨o,c2, ?_⟩;rw [h2];simp only [putFrame,List.length_set,ints_set]
     · rw [if_neg hik];have hne:upd R (kF k) ⟨(R (kF k)).e,(R (kF k)).size,(R (kF k)).v,(R (kF k)).n,(R (kF k)).xs.set slot.toNat (.int .i64 v)⟩ (kF i)=R (kF i):=upd_ne _ _ (k_ne (.inr (.inl (by omega))));exact ⟨a,b,c,by rw [hne];exact d,by rw [hne];exact e⟩
end
theorem frame_own {R:Nat × Nat × Nat→RowS} {hs:SH} {s:StateD} {B:Nat} {w:World} (ho:Own B w R) (h:Spl R hs s) {k:Nat} (hk:k < s.procs.length):
 ∃g fo fc,hs.po=some ⟨g,0,none⟩∧g < w.heap.size∧w.cell? ⟨g,k*4,none⟩=some (.int .i64 s.procs[k].type)∧w.cell? ⟨g,k*4+3,none⟩=some (.slice fo s.procs[k].frame.length fc)∧R (kF k)= ⟨2,1,.slice fo s.procs[k].frame.length fc,s.procs[k].frame.length,intsV s.procs[k].frame⟩:=by
 obtain ⟨xs,hx,hi⟩:=h.p;have hr:=ho.row kP;rw [hx] at hr;dsimp only at hr;obtain ⟨g,cap,e⟩:=Joins.ownsRow_form hr (by omega);injection e with e1 e2 e3
 obtain ⟨x0,x1,x2,x3,fo,fc,hf⟩:=hi k hk;rw [e1] at hr;rw [hf] at x3;exact ⟨g,fo,fc,e1,(hr.lt g rfl).2,(hr.cellAt _ (by omega)).trans x0,(hr.cellAt _ (by omega)).trans x3,hf⟩
def SetR (B2:Nat) (w:World) (R:Nat × Nat × Nat→RowS) (hs:SH) (E:EnvD) (r:Int × Int × Int) (v:Int) (e:Ending) (w':World):Prop:=
 e= .returned (.int .i64 r.2.2)∧ (r.2.2≠0→Below w.heap.size w w')∧
 (r.2.2=0→∃key xs,(key.1=0∨key.1=5)∧Own B2 w' (upd R key ⟨(R key).e,(R key).size,(R key).v,(R key).n,xs⟩)∧Spl (upd R key ⟨(R key).e,(R key).size,(R key).v,(R key).n,xs⟩) hs (setS E r.1 r.2.1 v)∧Below B2 w w'∧∀ (b:Nat) (cs:Array Value) (T:TypeId) (fr:Nat × Nat),w.heap[b]? =some (.cells cs T fr)→T≠2→w'.heap[b]? =some (.cells cs T fr))
theorem set_far {w w2:World} {B2:Nat} {R:Nat × Nat × Nat→RowS} (ho:Own B2 w R) (hb:Below w.heap.size w w2) {key:Nat × Nat × Nat} {g n c:Nat} (hv: (R key).v= .slice (some ⟨g,0,none⟩) n c) (he: (R key).e=2) (k:Nat) (z:Value):
 ∀ (b:Nat) (cs:Array Value) (T:TypeId) (fr:Nat × Nat),w.heap[b]? =some (.cells cs T fr)→T≠2→ (w2.setCell ⟨g,k,none⟩ z).heap[b]? =some (.cells cs T fr):=fun b cs T fr h hT=>by
 have h1:=owns_neObj (ho.row key) h (by rw [he];exact fun e=>hT e.symm);rw [hv] at h1;have h2:b≠g:=fun e=>h1 (by rw [e];rfl)
 rw [heap_setCell_other _ _ _ _ (by exact h2)];exact (hb.block _ (lt_of_block h)).trans h
def SetP (B2:Nat) (w:World) (hs:SH) (E:EnvD) (r:Int × Int × Int) (v:Int) (e:Ending) (w':World):Prop:=
 e= .returned (.int .i64 r.2.2)∧ (r.2.2≠0→Below w.heap.size w w')∧ (r.2.2=0→SO B2 w' hs (setS E r.1 r.2.1 v)∧Below B2 w w')
set_option maxRecDepth 100000 in
theorem slotsG {B pe:Nat} {h:MH} {hs:SH} {ao:Option Addr} {ac:Nat} {E:EnvD} (pid:Int) (w:World) (hk:Ek B w pe h hs ao ac E) (hn:pid < 0):
 Calls Tryz.prog 63 #[.pointer (some ⟨pe,0,none⟩),.int .i64 pid] w fun e w'=>e= .returned (.slice hs.go E.s.globals.length hs.gc)∧w=w':=by
 have c7:=hk.sk.c0;clear hk;have hd:decide (pid < 0)=true:=decide_eq_true hn;go_enter Tryz.func63,Tryz.ntmps63;go_wp2_with fail;go_ret;exact ⟨rfl,rfl⟩
set_option maxRecDepth 100000 in
theorem slotsF {B pe:Nat} {h:MH} {hs:SH} {ao:Option Addr} {ac:Nat} {E:EnvD} {k g n:Nat} {fo:Option Addr} {fc:Nat} (w:World) (hk:Ek B w pe h hs ao ac E) (hkl:k < E.s.procs.length) (hpo:hs.po=some ⟨g,0,none⟩) (hc:w.cell? ⟨g,k*4+3,none⟩=some (.slice fo n fc)):
 Calls Tryz.prog 63 #[.pointer (some ⟨pe,0,none⟩),.int .i64 k] w fun e w'=>e= .returned (.slice fo n fc)∧w=w':=by
 have c9:=hk.sk.c2;have hpl:=hk.sk.sd.procs.1;rw [hpo] at c9;clear hk hpo;have hkz: (0:Int)≤k:=by omega
 have hki: (k:Int) < E.s.procs.length:=by omega
 have hn:¬ (k:Int) < 0:=by omega
 have hd:decide ((k:Int) < 0)=false:=decide_eq_false hn;clear hn;go_enter Tryz.func63,Tryz.ntmps63;go_wp2_with fail;go_ret;exact ⟨rfl,rfl⟩
theorem types_len {E:EnvD} (hok:Ok E) {q:Int} (hq:q < E.s.procs.length): (typesL E q).length= (slotsL E q).length:=by
 unfold typesL slotsL;by_cases hn:q < 0
 · rw [if_pos hn,if_pos hn];have:=(may_globals hok.may).1;unfold fitsL at this;simp only [Bool.and_eq_true,decide_eq_true_eq] at this;exact this.1.symm
 · rw [if_neg hn,if_neg hn];obtain ⟨p,hp⟩:∃p,E.s.procs[q.toNat]? =some p:=⟨_,List.getElem?_eq_getElem (by omega)⟩;obtain ⟨t,ht,hf,-⟩:=may_frame hok.may (List.mem_of_getElem? hp);unfold fitsL at hf;simp only [Bool.and_eq_true,decide_eq_true_eq] at hf;unfold typeOfP;rw [hp];simp only [Option.map_some,Option.getD_some];rw [ht];exact hf.1.symm
set_option maxHeartbeats 4000000 in
set_option maxRecDepth 100000 in
theorem setRC {B pe B2:Nat} {h:MH} {hs:SH} {ao:Option Addr} {ac:Nat} {E:EnvD} {R:Nat × Nat × Nat→RowS} {p:Nat} {x:ExprD} (v:Int) (w:World) (hk:Ek B w pe h hs ao ac E) (hok:Ok E) (hx:E.m.exprs[p]? =some x) (ho:Own B2 w R) (hsp:Spl R hs E.s) (hB2:B2≤w.heap.size):
 Calls Tryz.prog 82 #[.pointer (some ⟨pe,0,none⟩),.int .i64 p,.int .i64 v] w (SetR B2 w R hs E (rslotB E (evE E) x) v):=by
 have HK:=Lib.hid hk;have HO:=Lib.hid hok;have HOW:=Lib.hid ho;have HSP:=Lib.hid hsp;have hvf:=fun h2=>var_facts hok hx h2
 have HS:=Lib.hid (slotC w hk hok (evalC hok) hx (fun h2=>(hvf h2).1) (fun h2 hs=>by have:=(hvf h2).2.1 hs;have:=(List.getElem?_eq_some_iff.1 hx).1;omega) (fun h2 d hd=>by have:=(hvf h2).2.2 d hd;have:=(List.getElem?_eq_some_iff.1 hx).1;omega));obtain ⟨⟨q,sl,er⟩,hr⟩:∃r,rslotB E (evE E) x=r:=⟨_,rfl⟩;have HSR:Hid (er=0→q < E.s.procs.length∧ (0≤q∨q < 0)∧∃k:Nat,sl=k∧k < (slotsL E q).length):=Lib.hid (fun h0=>by
  have h2:x.op=2:=by
   apply Classical.byContradiction;intro h2;unfold rslotB at hr;rw [if_pos h2] at hr;injection hr with _ hr
   injection hr with _ hr
   omega
  have:=slot_range (ev:=evE E) hok (hvf h2).1 (by rw [hr];exact h0);rw [hr] at this;exact ⟨this.1,by omega,this.2⟩)
 have HB2:=Lib.hid hB2;have hr':rslotB E (evalF E E.m.exprs.length) x= (q,sl,er):=hr;rw [hr'] at HS;rw [hr];clear hk hok hx ho hsp hvf hr hr' hB2;go_enter Tryz.func82,Tryz.ntmps82;go_wp2_with fail;refine HS.out.mono ?_;rintro e W1 ⟨rfl,hb1⟩;have HB1:=Lib.hid hb1;have HK1:=Lib.hid (HK.out.below hb1);have HOW1:=Lib.hid (HOW.out.below hb1);clear hb1 HS HK;by_cases h0:er=0
 · have hd0: (er != 0)=false:=by rw [bne_eq_false_iff_eq];exact h0
   subst h0;obtain ⟨hqr,-,k,rfl,hkl⟩:=HSR.out rfl;have hkz: (0:Int)≤k:=by omega
   have hlt:k < (typesL E q).length:=by rw [types_len HO.out hqr];exact hkl
   obtain ⟨⟨tb,ts⟩,hty⟩:∃t,(typesL E q)[k]=t:=⟨_,rfl⟩;have HF:Hid (fitAt E q k v=val.fitI tb ts v):=Lib.hid (by unfold fitAt;rw [Int.toNat_natCast,List.getD_eq_getElem?_getD,List.getElem?_eq_getElem hlt,hty];rfl);obtain ⟨z,hz⟩:∃z,val.fitI tb ts v=z:=⟨_,rfl⟩;have HFT:=Lib.hid (fun W=>val.fit_any tb v ts W);rw [hz] at HF;have HZE:=Lib.hid hz;clear hz;by_cases hn:q < 0
   · have hd1:decide (0≤q)=false:=decide_eq_false (by omega);have hTy:typesL E q=E.m.globals:=by unfold typesL;rw [if_pos hn]
     have hSl:slotsL E q=E.s.globals:=by unfold slotsL;rw [if_pos hn]
     have hlt':k < E.m.globals.length:=by rw [←hTy];exact hlt
     have hlg:k < E.s.globals.length:=by rw [←hSl];exact hkl
     have hgi: (k:Int) < E.m.globals.length:=by omega
     have hgj: (k:Int) < E.s.globals.length:=by omega
     have hgl:=HK1.out.ck.md.globals.1;have hgl2:=HK1.out.sk.sd.globals.1;obtain ⟨g,off,ho,hg,ht⟩:=HK1.out.ck.md.globals.cell hlt';have hel:E.m.globals[k]= (tb,ts):=by rw [←hty];congr 1;exact hTy.symm
     rw [hel] at ht;have c0:=HK1.out.ck.c0;rw [ho] at c0;obtain ⟨t0,t1⟩:=ht;have hrow:=HOW1.out.row kG;rw [HSP.out.g] at hrow;dsimp only at hrow;obtain ⟨gb,cap,e⟩:=Joins.ownsRow_form hrow (by omega);injection e with e1 e2 e3
     have HGB:=Lib.hid e1;rw [e1] at hrow;have hgb:=(hrow.lt gb rfl).2;have s0:=hrow.cellAt k (by omega);have s1:=hrow.frozenAt k;have hvk: (intsV E.s.globals)[k]? =some (.int .i64 E.s.globals[k]):=by simp [intsV,hlg]
     rw [hvk] at s0;have HSG:=Lib.hid (fun W hk=>slotsG (B:=B) (pe:=pe) (h:=h) (hs:=hs) (ao:=ao) (ac:=ac) (E:=E) q W hk hn);have HSPP:=Lib.hid (HSP.out.putG (k:Int) z hn);have HN:=Lib.hid hn;have HGW:=Lib.hid (And.intro hg hgb);have HBW1:=Lib.hid HK1.out.leW;clear hvk hrow e1 e2 e3 hel hty hTy hSl hlt hkl hn ho HSR;go_wp2_with fail;have t0':W1.drew.cell? ⟨g,off+k*2,none⟩=some (.int .i64 tb):=t0;have t1':W1.drew.cell? ⟨g,off+k*2+1,none⟩=some (.bool ts):=t1;have HS0:=Lib.hid (And.intro s0 s1);clear t0 t1 s0 s1
     go_region_law
      (first
        | (go_simp;go_at_call 63;refine (HSG.out _ (HK1.out.below (by first | exact (Below.refl _ _).drew | exact HBF.out))).mono ?_;rintro e w1 ⟨rfl,rfl⟩;rw [HGB.out])
        | (go_simp;go_at_call 128;refine (HFT.out _).mono ?_;rintro e w2 ⟨rfl,hb2⟩;rw [HZE.out];have HBF:Hid (Below W1.heap.size W1 w2):=Lib.hid ((Below.refl _ _).drew.trans hb2);have m1:w2.cell? ⟨gb,k,none⟩=some (.int .i64 E.s.globals[k]):=(HBF.out.cell (by exact HGW.out.2)).trans HS0.out.1;have m2:w2.frozen? ⟨gb,k,none⟩=false:=(HBF.out.frozen (by exact HGW.out.2)).trans HS0.out.2;clear hb2))
     all_goals (
      have HOO:=Lib.hid ((HOW1.out.below HBF.out).set kG (g:=gb) (n:=E.s.globals.length) (c:=hs.gc) (by rw [HSP.out.g,HGB.out]) (by rw [HSP.out.g]) k (.int .i64 z));have HBB:Hid (Below B2 w (w2.setCell ⟨gb,k,none⟩ (.int .i64 z))):=Lib.hid (((HB1.out.mono HB2.out).trans (HBF.out.mono (Nat.le_trans HB2.out HB1.out.size))).setCell (by have:=(HOW1.out.row kG).lt gb (by rw [HSP.out.g,HGB.out];rfl);exact this.1) _);clear t0' t1' m1 m2;have HFR:=Lib.hid (set_far HOW.out (HB1.out.trans (HBF.out.mono HB1.out.size)) (key:=kG) (g:=gb) (n:=E.s.globals.length) (c:=hs.gc) (by rw [HSP.out.g,HGB.out]) (by rw [HSP.out.g]) k (.int .i64 z));have HE:Hid (SetR B2 w R hs E (q,(k:Int),0) v (.returned (.int .i64 0)) (w2.setCell ⟨gb,k,none⟩ (.int .i64 z))):=Lib.hid ⟨rfl,fun h=>absurd rfl h,fun _=>⟨kG,_,.inl rfl,HOO.out,by unfold setS;rw [HF.out];exact HSPP.out,HBB.out,HFR.out⟩⟩;clear HOO HBB HBF HSPP
      try simp only [Exit.inBlock,Exit.then]
      go_wp2_with fail;go_ret;exact HE.out)
   · obtain ⟨j,rfl⟩:∃j:Nat,q=j:=⟨q.toNat,by omega⟩;have hjl:j < E.s.procs.length:=by omega
     have hji: (j:Int) < E.s.procs.length:=by omega
     have hj0: (0:Int)≤j:=by omega
     have hd1:decide (0≤ (j:Int))=true:=decide_eq_true hj0;obtain ⟨gp,fo,fc,hpo,hgp,hc0,hc3,hkF⟩:=frame_own HOW1.out HSP.out hjl;obtain ⟨t,ht,hfl,-,-,hty0⟩:=may_frame HO.out.may (List.getElem_mem hjl);have htp:E.s.procs[j].type < E.m.procs.length:=by have:=(List.getElem?_eq_some_iff.1 ht).1;omega
     obtain ⟨tj,htj⟩:∃tj:Nat,E.s.procs[j].type=tj:=⟨E.s.procs[j].type.toNat,by omega⟩;rw [htj,Int.toNat_natCast] at ht;have htyp:typeOfP E j=tj:=by rw [typeOf_get (List.getElem?_eq_getElem hjl),htj]
     have hTy:typesL E j=t.frame:=by unfold typesL;rw [if_neg hn,htyp,Int.toNat_natCast,ht];rfl
     have hSl:slotsL E j=E.s.procs[j].frame:=by unfold slotsL;rw [if_neg hn,Int.toNat_natCast,List.getElem?_eq_getElem hjl];rfl
     have hlt':k < t.frame.length:=by rw [←hTy];exact hlt
     have hlg:k < E.s.procs[j].frame.length:=by rw [←hSl];exact hkl
     have htl:tj < E.m.procs.length:=by omega
     have hti: (tj:Int) < E.m.procs.length:=by omega
     have ht0: (0:Int)≤tj:=by omega
     have hgi: (k:Int) < t.frame.length:=by omega
     have hgj: (k:Int) < E.s.procs[j].frame.length:=by omega
     have hpl:=HK1.out.ck.md.procs.1;have hpl2:=HK1.out.sk.sd.procs.1;obtain ⟨gm,offm,hom,hgm,hta⟩:=HK1.out.ck.md.procs.get ht;obtain ⟨fto,ftc,ct,hrt⟩:=hta.frame;have hfl1:=hrt.1;obtain ⟨g,off,ho,hg,htt⟩:=hrt.cell hlt';have hel:t.frame[k]= (tb,ts):=by rw [←hty];congr 1;exact hTy.symm
     rw [hel] at htt;rw [ho] at ct;have c4:=HK1.out.ck.c4;rw [hom] at c4;have c9:=HK1.out.sk.c2;rw [hpo] at c9;rw [htj] at hc0;obtain ⟨t0,t1⟩:=htt;have hrow:=HOW1.out.row (kF j);rw [hkF] at hrow;dsimp only at hrow;obtain ⟨gb,cap,e⟩:=Joins.ownsRow_form hrow (by omega);injection e with e1 e2 e3
     have HGB:=Lib.hid e1;have HKF:=Lib.hid hkF;rw [e1] at hrow;have hgb:=(hrow.lt gb rfl).2;have s0:=hrow.cellAt k (by omega);have s1:=hrow.frozenAt k;have hvk: (intsV E.s.procs[j].frame)[k]? =some (.int .i64 E.s.procs[j].frame[k]):=by simp [intsV,hlg]
     rw [hvk] at s0;have HSG:=Lib.hid (fun (W:World) (hk:Ek B W pe h hs ao ac E) (hc:W.cell? ⟨gp,j*4+3,none⟩=some (.slice fo E.s.procs[j].frame.length fc))=>slotsF W hk hjl hpo hc);have HSPP:=Lib.hid (HSP.out.putF (k:Int) z hjl);have HGW:=Lib.hid (And.intro hgp hgb);have HBW1:=Lib.hid HK1.out.leW;have HC3:=Lib.hid hc3;have HS0:=Lib.hid (And.intro s0 s1);have HT01:=Lib.hid (And.intro t0 (And.intro t1 hg));clear hvk hrow e1 e2 e3 hel hty hTy hSl hlt hkl hn ho hom hpo hkF hc3 ht htyp htj hty0 htp hfl hta hrt s0 s1 t0 t1 HSR;have c0:=HK1.out.ck.c0;go_wp2_with fail;clear c0;go_quiet (fail)
     try simp only [Exit.inBlock,Exit.then]
     go_wp2_with fail;have HB3:Hid (Below W1.heap.size W1 (W1.drewN nq)):=Lib.hid (bdrew (Below.refl _ _) nq);generalize W1.drewN nq=W3 at HB3 ⊢;clear ct c4 c9 hc0;have t0':W3.drew.cell? ⟨g,off+k*2,none⟩=some (.int .i64 tb):=(HB3.out.cell (by exact Nat.lt_of_lt_of_le HT01.out.2.2 HBW1.out)).trans HT01.out.1;have t1':W3.drew.cell? ⟨g,off+k*2+1,none⟩=some (.bool ts):=(HB3.out.cell (by exact Nat.lt_of_lt_of_le HT01.out.2.2 HBW1.out)).trans HT01.out.2.1
     go_region_law
      (first
        | (go_simp;go_at_call 63;refine (HSG.out _ (HK1.out.below (by first | exact HB3.out.drew | exact HBF.out)) (by first | exact (HB3.out.drew.cell HGW.out.1).trans HC3.out | exact (HBF.out.cell HGW.out.1).trans HC3.out)).mono ?_;rintro e w1 ⟨rfl,rfl⟩;rw [HGB.out])
        | (go_simp;go_at_call 128;refine (HFT.out _).mono ?_;rintro e w2 ⟨rfl,hb2⟩;rw [HZE.out];have HBF:Hid (Below W1.heap.size W1 w2):=Lib.hid (HB3.out.drew.trans (hb2.mono HB3.out.size));have m1:w2.cell? ⟨gb,k,none⟩=some (.int .i64 E.s.procs[j].frame[k]):=(HBF.out.cell (by exact HGW.out.2)).trans HS0.out.1;have m2:w2.frozen? ⟨gb,k,none⟩=false:=(HBF.out.frozen (by exact HGW.out.2)).trans HS0.out.2;clear hb2))
     all_goals (
      have HOO:=Lib.hid ((HOW1.out.below HBF.out).set (kF j) (g:=gb) (n:=E.s.procs[j].frame.length) (c:=fc) (by rw [HKF.out,HGB.out]) (by rw [HKF.out]) k (.int .i64 z));have HBB:Hid (Below B2 w (w2.setCell ⟨gb,k,none⟩ (.int .i64 z))):=Lib.hid (((HB1.out.mono HB2.out).trans (HBF.out.mono (Nat.le_trans HB2.out HB1.out.size))).setCell (by have:=(HOW1.out.row (kF j)).lt gb (by rw [HKF.out,HGB.out];rfl);exact this.1) _);clear t0' t1' m1 m2;have HFR:=Lib.hid (set_far HOW.out (HB1.out.trans (HBF.out.mono HB1.out.size)) (key:=kF j) (g:=gb) (n:=E.s.procs[j].frame.length) (c:=fc) (by rw [HKF.out,HGB.out]) (by rw [HKF.out]) k (.int .i64 z));have HE:Hid (SetR B2 w R hs E ((j:Int),(k:Int),0) v (.returned (.int .i64 0)) (w2.setCell ⟨gb,k,none⟩ (.int .i64 z))):=Lib.hid ⟨rfl,fun h=>absurd rfl h,fun _=>⟨kF j,_,.inr rfl,HOO.out,by unfold setS;rw [HF.out];exact HSPP.out,HBB.out,HFR.out⟩⟩;clear HOO HBB HBF HSPP
      try simp only [Exit.inBlock,Exit.then]
      go_wp2_with fail;go_ret;exact HE.out)
 · have hd0: (er != 0)=true:=by rw [bne_iff_ne];exact h0
   have HZ:=Lib.hid h0;go_wp2_with fail;go_ret;exact ⟨rfl,fun _=>HB1.out,fun h=>absurd h HZ.out⟩
theorem setC {B pe B2:Nat} {h:MH} {hs:SH} {ao:Option Addr} {ac:Nat} {E:EnvD} {R:Nat × Nat × Nat→RowS} {p:Nat} {x:ExprD} (v:Int) (w:World) (hk:Ek B w pe h hs ao ac E) (hok:Ok E) (hx:E.m.exprs[p]? =some x) (ho:Own B2 w R) (hsp:Spl R hs E.s) (hB2:B2≤w.heap.size):
 Calls Tryz.prog 82 #[.pointer (some ⟨pe,0,none⟩),.int .i64 p,.int .i64 v] w (SetP B2 w hs E (rslotB E (evE E) x) v):=
 (setRC v w hk hok hx ho hsp hB2).mono fun e w' ⟨h1,h2,h3⟩=>⟨h1,h2,fun h0=>by
   obtain ⟨key,xs,-,k1,k2,k3,-⟩:=h3 h0;exact ⟨⟨_,k1,k2⟩,k3⟩⟩
end Go.Proofs.YthfldokfnjpkmaaGreatDoor
namespace Go.Proofs.YthfldokfnjpkmaaGreatDoor
open Go.ChangeShapes Go.WideShapes Go.ChangeAt Go.RowKit
def envStore (E:EnvD) (x v:Int):StateD × Int:=
 if envE E x≠0 then (zeroS,envE E x)
 else if (rslotB E (evE E) (exprNo E x)).2.2≠0 then (zeroS,(rslotB E (evE E) (exprNo E x)).2.2)
 else (setS E (rslotB E (evE E) (exprNo E x)).1 (rslotB E (evE E) (exprNo E x)).2.1 v,0)
def StoreP (w:World) (r:StateD × Int) (e:Ending) (w':World):Prop:=∃h,e= .returned (.tuple #[sV h r.1,.int .i64 r.2])∧SO w.heap.size w' h r.1∧Below w.heap.size w w'
def withS (E:EnvD) (s:StateD):EnvD:=⟨E.m,s,E.pid,E.timeout,E.able⟩
theorem env_cells {W:World} {b:Nat} {h:MH} {hs:SH} {ao:Option Addr} {ac:Nat} {E:EnvD} {T:TypeId} (hb:W.heap[b]? =some (.cells (eCells h hs ao ac E) T (0,0))):∀i v,(eCells h hs ao ac E)[i]? =some v→W.cell? ⟨b,i,none⟩=some v:=fun i v hv=>(cell_of_row _ _ _ _ _ _ hb).trans hv
theorem sV_put (h:SH) (s:StateD) (pid slot v:Int):sV h (putSlot s pid slot v)=sV h s:=by
 unfold putSlot sV sCells;split <;> simp
def put6 (W:World) (b o:Nat) (h:SH) (s:StateD):World:=
 (((((W.setCell ⟨b,o,none⟩ (.slice h.go s.globals.length h.gc)).setCell ⟨b,o+1,none⟩ (.slice h.co s.chans.length h.cc)).setCell ⟨b,o+2,none⟩ (.slice h.po s.procs.length h.pc)).setCell ⟨b,o+3,none⟩ (.int .i64 s.last)).setCell ⟨b,o+4,none⟩ (.int .i64 s.alone)).setCell ⟨b,o+5,none⟩ (.int .i64 s.claim)
theorem put6_heap {W:World} {b o:Nat} {h:SH} {s:StateD} {cs:Array Value} {T:TypeId} (hb:W.heap[b]? =some (.cells cs T (0,0))): (put6 W b o h s).heap[b]? =some (.cells ((((((cs.setIfInBounds o (.slice h.go s.globals.length h.gc)).setIfInBounds (o+1) (.slice h.co s.chans.length h.cc)).setIfInBounds (o+2) (.slice h.po s.procs.length h.pc)).setIfInBounds (o+3) (.int .i64 s.last)).setIfInBounds (o+4) (.int .i64 s.alone)).setIfInBounds (o+5) (.int .i64 s.claim)) T (0,0)):=by
 unfold put6;exact heap_setCell_same _ _ _ _ _ _ (heap_setCell_same _ _ _ _ _ _ (heap_setCell_same _ _ _ _ _ _ (heap_setCell_same _ _ _ _ _ _ (heap_setCell_same _ _ _ _ _ _ (heap_setCell_same _ _ _ _ _ _ hb)))))
theorem put6_other {W:World} {b o c:Nat} {h:SH} {s:StateD} (hc:c≠b): (put6 W b o h s).heap[c]? =W.heap[c]? :=by
 unfold put6
 repeat rw [heap_setCell_other _ _ _ _ (by exact hc)]
theorem put6_below {W:World} {b o B:Nat} {h:SH} {s:StateD} (hB:B≤b):Below B W (put6 W b o h s):=
 ((((((Below.refl _ _).setCell hB _).setCell hB _).setCell hB _).setCell hB _).setCell hB _).setCell hB _
theorem put6_own {W:World} {b o B:Nat} {h:SH} {s:StateD} {R:Nat × Nat × Nat→RowS} (ho:Own B W R) (hb:b < B):Own B (put6 W b o h s) R:=
 (((((ho.low _ hb _).low _ hb _).low _ hb _).low _ hb _).low _ hb _).low _ hb _
theorem put6_size {W:World} {b o:Nat} {h:SH} {s:StateD}: (put6 W b o h s).heap.size=W.heap.size:=by
 unfold put6;simp
end Go.Proofs.YthfldokfnjpkmaaGreatDoor
namespace Go.Proofs.YthfldokfnjpkmaaGreatDoor
open Go.ChangeShapes Go.WideShapes Go.ChangeAt Go.RowKit
section
variable {E:EnvD} {ev ev':Int→Int × Int}
theorem dims_congr:∀ (l:List DimD) (a:Int),(∀d ∈ l,ev d.i=ev' d.i)→dimsF ev l a=dimsF ev' l a
 | [],a,_=>rfl
 | d :: r,a,h=>by
   unfold dimsF;rw [h d (by simp),dims_congr r _ fun x hx=>h x (by simp [hx])]
theorem wanted_congr:∀ (l:List (Int × Int)),(∀z ∈ l,ev z.1=ev' z.1)→wantedF ev l=wantedF ev' l
 | [],_=>rfl
 | z :: r,h=>by
   unfold wantedF;rw [h z (by simp),wanted_congr r fun x hx=>h x (by simp [hx])]
theorem pid_congr {v:VarD} (h:v.scope=2→ev v.who=ev' v.who):pidB E ev v=pidB E ev' v:=by
 unfold pidB;by_cases h2:v.scope=2
 · rw [h h2]
 · simp only [if_neg h2]
theorem rslot_congr {x:ExprD} (hw:x.op=2→x.v.scope=2→ev x.v.who=ev' x.v.who) (hd:x.op=2→∀d ∈ x.v.dims,ev d.i=ev' d.i):rslotB E ev x=rslotB E ev' x:=by
 unfold rslotB;by_cases h2:x.op=2
 · rw [pid_congr (hw h2),dims_congr _ _ (hd h2)]
 · simp only [if_pos h2]
theorem rchan_congr {a:Int} (h:ev a=ev' a):rchanB E ev a=rchanB E ev' a:=by
 unfold rchanB;rw [h]
theorem evalB_congr {x:ExprD} (hop:1≤x.op∧x.op≤39) (h:∀q ∈ partsL x,ev q=ev' q):evalB E ev x=evalB E ev' x:=by
 have hA:1≤partsOf x.op→ev x.a=ev' x.a:=fun h1=>h x.a (List.mem_append_left _ (partsTakeAt (n:=0) rfl (by omega)))
 have hB:2≤partsOf x.op→ev x.b=ev' x.b:=fun h1=>h x.b (List.mem_append_left _ (partsTakeAt (n:=1) rfl (by omega)))
 have hC:3≤partsOf x.op→ev x.c=ev' x.c:=fun h1=>h x.c (List.mem_append_left _ (partsTakeAt (n:=2) rfl (by omega)))
 unfold evalB;by_cases h1:x.op=1
 · simp only [if_pos h1]
 simp only [if_neg h1];by_cases h2:x.op=2
 · simp only [if_pos h2];have hm:moreL x= (if x.v.scope=2 then [x.v.who] else []) ++ x.v.dims.map (·.i):=if_pos h2;have e:rslotB E ev x=rslotB E ev' x:=rslot_congr (fun _ hs=>h _ (List.mem_append_right _ (by rw [hm,if_pos hs];simp))) (fun _ d hd=>h _ (List.mem_append_right _ (by rw [hm];exact List.mem_append_right _ (List.mem_map_of_mem hd))));rw [e]
 simp only [if_neg h2];by_cases h3:3≤x.op∧x.op≤5
 · simp only [if_pos h3];rw [hA (by rw [pOf1 (.inl h3)];omega)]
 simp only [if_neg h3];by_cases h4:22≤x.op∧x.op≤24
 · simp only [if_pos h4];unfold chosenB;by_cases h24:x.op=24
   · have e:=pOf3 h24;rw [hA (by omega),hB (by omega),hC (by omega)]
   · have e:=pOf2 (op:=x.op) (by omega);rw [hA (by omega),hB (by omega)];simp only [h24,false_and,if_false]
 simp only [if_neg h4];by_cases h5:25≤x.op∧x.op≤29
 · simp only [if_pos h5];unfold rroomB;rw [rchan_congr (hA (by rw [pOf1 (by omega)];omega))]
 simp only [if_neg h5];by_cases h6:x.op=30
 · simp only [if_pos h6];unfold rpollB;have hm:moreL x=x.args:=by unfold moreL;rw [if_neg h2,if_pos (.inl h6)]
   rw [rchan_congr (hA (by rw [pOf1 (by omega)];omega)),wanted_congr (ev:=ev) (ev':=ev') (x.args.zip x.mat) fun z hz=>h _ (List.mem_append_right _ (by rw [hm];exact (List.of_mem_zip (by exact hz)).1))]
 simp only [if_neg h6];by_cases h7:31≤x.op∧x.op≤35
 · simp only [if_pos h7]
 simp only [if_neg h7];by_cases h8:36≤x.op∧x.op≤38
 · simp only [if_pos h8];rw [hA (by rw [pOf1 (by omega)];omega)]
 simp only [if_neg h8];by_cases h9:x.op=39
 · simp only [if_pos h9]
 simp only [if_neg h9];have e:=pOf2 (op:=x.op) (by omega);rw [hA (by omega),hB (by omega)]
end
theorem ex_fact {E:EnvD} (hok:Ok E) {p:Nat} {x:ExprD} (hx:E.m.exprs[p]? =some x):exprB E.m x=true∧ (1≤x.op∧x.op≤39)∧∀q ∈ partsL x,0≤q∧q < p:=by
 obtain ⟨h1,h2⟩:=(good_ex hok).ok p x hx;refine ⟨h1, ?_,h2⟩;unfold exprB at h1;simp only [Bool.and_eq_true,decide_eq_true_eq] at h1;exact h1.1.1
theorem evalF_more {E:EnvD} (hok:Ok E):∀ (f g p:Nat),p < f→p < g→evalF E f p=evalF E g p
 | 0,g,p,h,_=>by omega
 | f+1,g,p,h,h2=>by
   obtain ⟨k,rfl⟩:∃k,g=k+1:=⟨g - 1,by omega⟩;unfold evalF;rw [Int.toNat_natCast];cases hx:E.m.exprs[p]? with
   | none=>rfl
   | some x=>
     obtain ⟨h3,h4,h5⟩:=ex_fact hok hx;refine evalB_congr h4 fun q hq=> ?_
     obtain ⟨h6,h7⟩:=h5 q hq;obtain ⟨j,rfl⟩:∃j:Nat,q=j:=⟨q.toNat,by omega⟩;exact evalF_more hok f k j (by omega) (by omega)
theorem evE_step {E:EnvD} (hok:Ok E) {p:Nat} {x:ExprD} (hx:E.m.exprs[p]? =some x):evE E p=evalB E (evE E) x:=by
 have hp:=(List.getElem?_eq_some_iff.1 hx).1;obtain ⟨k,hk⟩:∃k,E.m.exprs.length=k+1:=⟨E.m.exprs.length - 1,by omega⟩;obtain ⟨h3,h4,h5⟩:=ex_fact hok hx;unfold evE;rw [hk]
 conv=>lhs;unfold evalF
 rw [Int.toNat_natCast,hx];refine evalB_congr h4 fun q hq=> ?_
 obtain ⟨h6,h7⟩:=h5 q hq;obtain ⟨j,rfl⟩:∃j:Nat,q=j:=⟨q.toNat,by omega⟩;exact evalF_more hok k (k+1) j (by omega) (by omega)
theorem evE_bd {E:EnvD} (hok:Ok E) {p:Nat} {x:ExprD} (hx:E.m.exprs[p]? =some x):Bd x.op (evE E p):=by
 rw [evE_step hok hx];exact evalB_bd hok (fun i=>evalF_inR hok _ i) (ex_fact hok hx).1
theorem fit_fits {b v z:Int} {s:Bool} (h:fitB b s v=true):fitB b s (val.fitI b s z)=true:=by
 unfold fitB at h ⊢;simp only [Bool.and_eq_true] at h ⊢;refine ⟨h.1, ?_⟩;have h1:=h.1;unfold tyB at h1;simp only [Bool.and_eq_true,decide_eq_true_eq] at h1;obtain ⟨⟨h2,h3⟩,-⟩:=h1;obtain ⟨H,p1,p2,p3,p4⟩:=val.pows b h2 h3;have q1:=Int.emod_nonneg z (show (2*H:Int)≠0 by omega);have q2:=Int.emod_lt_of_pos z (show (0:Int) < 2*H by omega);have hf:val.fitI b s z=if s=true∧H≤z % (2*H) then z % (2*H) - 2*H else z % (2*H):=by unfold val.fitI;rw [if_neg (by omega),p1,p2]
 rw [hf,p1,p2];generalize z % (2*H)=L at q1 q2 ⊢;cases s
 · simp only [Bool.false_eq_true,false_and,if_false,Bool.and_eq_true,decide_eq_true_eq];omega
 · by_cases hh:H≤L
   · simp only [hh,and_self,if_true,Bool.and_eq_true,decide_eq_true_eq];omega
   · simp only [hh,and_false,if_false,if_true,Bool.and_eq_true,decide_eq_true_eq];omega
theorem fitsL_set {t:List (Int × Bool)} {l:List Int} (h:fitsL t l=true) {k:Nat} {ty:Int × Bool} (hk:t[k]? =some ty) (z:Int):fitsL t (l.set k (val.fitI ty.1 ty.2 z))=true:=by
 unfold fitsL at h ⊢;simp only [Bool.and_eq_true,decide_eq_true_eq] at h ⊢;refine ⟨by simpa using h.1, ?_⟩;rw [List.all_eq_true];intro x hx;obtain ⟨i,hi,rfl⟩:=List.mem_iff_getElem.1 hx;simp only [List.length_zip,List.length_set] at hi;have hold:fitZ (t[i]'(by omega),l[i]'(by omega))=true:=List.all_eq_true.1 h.2 _ (by rw [List.mem_iff_getElem];exact ⟨i,by simp;omega,by simp⟩);simp only [List.getElem_zip];by_cases e:k=i
 · subst e;obtain ⟨h1,h2⟩:=List.getElem?_eq_some_iff.1 hk;rw [List.getElem_set_self,h2];unfold fitZ at hold ⊢;rw [h2] at hold;exact fit_fits hold
 · rw [List.getElem_set_ne e];exact hold
theorem may_put {E:EnvD} (hok:Ok E) {q:Int} {k:Nat} (hq:q < E.s.procs.length) (hk:k < (slotsL E q).length) (v:Int):Ok (withS E (setS E q k v)):=by
 have hm:=hok.may;have htl:=types_len hok hq;obtain ⟨ty,hty⟩:∃ty,(typesL E q)[k]? =some ty:=⟨_,List.getElem?_eq_getElem (by omega)⟩;have hfa:fitAt E q k v=val.fitI ty.1 ty.2 v:=by
  unfold fitAt;rw [Int.toNat_natCast,List.getD_eq_getElem?_getD,hty];rfl
 refine ⟨hok.good, ?_, ?_⟩
 · show mayB E.m (setS E q k v)=true;unfold setS putSlot;rw [hfa];unfold mayB at hm ⊢;simp only [Bool.and_eq_true] at hm ⊢;obtain ⟨⟨⟨m1,m2⟩,m3⟩,m4⟩:=hm;by_cases hn:q < 0
   · rw [if_pos hn,Int.toNat_natCast];have ht:typesL E q=E.m.globals:=by unfold typesL;rw [if_pos hn]
     rw [ht] at hty;refine ⟨⟨⟨?_,m2⟩,m3⟩,m4⟩;unfold mayHeadB at m1 ⊢;simp only [Bool.and_eq_true] at m1 ⊢;exact ⟨fitsL_set m1.1 hty v,m1.2⟩
   · rw [if_neg hn,Int.toNat_natCast];obtain ⟨j,rfl⟩:∃j:Nat,q=j:=⟨q.toNat,by omega⟩;rw [Int.toNat_natCast];have hjl:j < E.s.procs.length:=by omega
     refine ⟨⟨⟨?_,m2⟩, ?_⟩, ?_⟩
     · unfold mayHeadB at m1 ⊢;simpa using m1
     · rw [List.all_eq_true] at m3 ⊢;intro x hx;obtain ⟨i,hi,rfl⟩:=List.mem_iff_getElem.1 hx;rw [List.length_modify] at hi;rw [List.getElem_modify];have hold:=m3 _ (List.getElem_mem hi);split
       · rename_i e
         subst e;unfold procMayB procHeadB procFB at hold ⊢;simp only [Bool.and_eq_true] at hold ⊢;refine ⟨hold.1, ?_⟩;have h2:=hold.2;simp only [putFrame];split at h2
         · rename_i t ht
           rw [ht];simp only [Bool.and_eq_true] at h2 ⊢;refine ⟨h2.1,fitsL_set h2.2 ?_ v⟩;have e2:typesL E j=t.frame:=by unfold typesL;rw [if_neg hn,typeOf_get (List.getElem?_eq_getElem hjl),ht];rfl
           rw [←e2];exact hty
         · cases h2
       · exact hold
     · unfold mayTailB at m4 ⊢;simpa using m4
 · show -1≤E.pid∧E.pid < (setS E q k v).procs.length;have hp:=hok.pid;unfold setS putSlot;split
   · exact hp
   · simpa using hp
end Go.Proofs.YthfldokfnjpkmaaGreatDoor
namespace Go.Proofs.YthfldokfnjpkmaaGreatDoor
structure MayF (m:ModelD) (s:StateD):Prop where
 globals:fitsL m.globals s.globals=true
 nc:s.chans.length≤32
 np:s.procs.length≤16
 chans:∀c ∈ s.chans,chanMayB m c=true
 procs:∀p ∈ s.procs,procMayB m p=true
 last:0≤s.last∧s.last < 16
 alone: -1≤s.alone∧s.alone < s.procs.length
 claim: (if m.claim < 0 then decide (s.claim= -1) else decide (0≤s.claim∧s.claim < claimLocs m))=true
theorem MayF.of {m:ModelD} {s:StateD} (h:mayB m s=true):MayF m s:=by
 unfold mayB mayHeadB mayTailB at h;simp only [Bool.and_eq_true,decide_eq_true_eq] at h;obtain ⟨⟨⟨⟨h1,h2,h3⟩,h4⟩,h5⟩,⟨h6,h7,h8,h9⟩,h10⟩:=h;exact ⟨h1,h2,h3,List.all_eq_true.1 h4,List.all_eq_true.1 h5,⟨h6,h7⟩,⟨h8,h9⟩,h10⟩
theorem MayF.may {m:ModelD} {s:StateD} (h:MayF m s):mayB m s=true:=by
 unfold mayB mayHeadB mayTailB;simp only [Bool.and_eq_true,decide_eq_true_eq];exact ⟨⟨⟨⟨h.globals,h.nc,h.np⟩,List.all_eq_true.2 h.chans⟩,List.all_eq_true.2 h.procs⟩,⟨h.last.1,h.last.2,h.alone.1,h.alone.2⟩,h.claim⟩
theorem fitted_ty {b v:Int} {s:Bool} (h:fitB b s v=true) (z:Int):fitB b s (val.fitI b s z)=true:=fit_fits h
theorem fits_frameK {f:List (Int × Bool)} {init:List Int} (hl:init.length=f.length) (h:∀z ∈ f.zip init,fitZ z=true) (args:List Int) (k:Nat):fitsL f (frameK f init args k)=true:=by
 unfold fitsL;rw [Bool.and_eq_true,decide_eq_true_eq,frameK_len];refine ⟨hl,List.all_eq_true.2 fun z hz=> ?_⟩;obtain ⟨i,hi,rfl⟩:=List.mem_iff_getElem.1 hz;simp only [List.length_zip,frameK_len] at hi;have hold:fitZ (f[i]'(by omega),init[i]'(by omega))=true:=h _ (by rw [List.mem_iff_getElem];exact ⟨i,by simp;omega,by simp⟩);have hg: (frameK f init args k)[i]? =some (if i < k then val.fitI (f.getD i (0,false)).1 (f.getD i (0,false)).2 (args.getD i 0) else init[i]'(by omega)):=by
  rw [frameK_get,List.getElem?_eq_getElem (by omega)];rfl
 have hge: (frameK f init args k)[i]'(by rw [frameK_len];omega)=if i < k then val.fitI (f.getD i (0,false)).1 (f.getD i (0,false)).2 (args.getD i 0) else init[i]'(by omega):=(List.getElem?_eq_some_iff.1 hg).2
 simp only [List.getElem_zip];rw [hge];by_cases hk:i < k
 · rw [if_pos hk];have :f.getD i (0,false)=f[i]'(by omega):=by rw [List.getD_eq_getElem?_getD,List.getElem?_eq_getElem (by omega)];rfl
   rw [this];unfold fitZ at hold ⊢;exact fit_fits hold
 · rw [if_neg hk];exact hold
theorem begin_may {m:ModelD} (hg:goodB m=true) {t:Nat} {p:ProcD} (hp:m.procs[t]? =some p) (hc: (t:Int)≠m.claim) (args:List Int):procMayB m (beginD t p args)=true:=by
 have htl:=(List.getElem?_eq_some_iff.1 hp).1;have h1:=(GM.of hg).procs t p hp;unfold procB frameB frameHeadB placesB placesHeadB at h1;simp only [Bool.and_eq_true,Bool.not_eq_true',decide_eq_false_iff_not,decide_eq_true_eq] at h1;obtain ⟨⟨⟨⟨h2,h3⟩,-⟩,⟨⟨h5,-⟩,-⟩⟩,-⟩:=h1;unfold procMayB procHeadB procFB beginD;simp only [Int.toNat_natCast];rw [hp];simp only [Bool.and_eq_true,decide_eq_true_eq];exact ⟨⟨by omega,by omega,hc⟩,⟨by omega,by omega,trivial⟩,fits_frameK (by omega) (List.all_eq_true.1 h3) args _⟩
def addProc (s:StateD) (p:ProcessD):StateD:=⟨s.globals,s.chans,s.procs ++ [p],s.last,s.alone,s.claim⟩
theorem may_add {m:ModelD} {s:StateD} (h:mayB m s=true) {p:ProcessD} (hp:procMayB m p=true) (hn:s.procs.length < 16):mayB m (addProc s p)=true:=by
 have k:=MayF.of h;refine MayF.may ⟨k.globals,k.nc,by simp [addProc];omega,k.chans,fun q hq=> ?_,k.last,⟨k.alone.1,by have:=k.alone.2;simp [addProc];omega⟩,k.claim⟩;rcases List.mem_append.1 hq with hq | hq
 · exact k.procs q hq
 · rw [List.mem_singleton.1 hq];exact hp
def addChan (s:StateD) (c:ChanD):StateD:=⟨s.globals,s.chans ++ [c],s.procs,s.last,s.alone,s.claim⟩
theorem may_chans {m:ModelD} {s:StateD} (h:mayB m s=true) (hg:goodB m=true) {n:Int} (hn:0≤n∧n < m.shapes.length) (hl:s.chans.length < 32):mayB m (addChan s ⟨n,[]⟩)=true:=by
 have k:=MayF.of h;refine MayF.may ⟨k.globals,by simp [addChan];omega,k.np,fun q hq=> ?_,k.procs,k.last,k.alone,k.claim⟩;rcases List.mem_append.1 hq with hq | hq
 · exact k.chans q hq
 · rw [List.mem_singleton.1 hq];obtain ⟨sh,hs⟩:∃sh,m.shapes[n.toNat]? =some sh:=⟨_,List.getElem?_eq_getElem (by omega)⟩;have h7:=(good_gf hg).shapes sh (List.mem_of_getElem? hs);unfold shapeB at h7;simp only [Bool.and_eq_true,Bool.not_eq_true',decide_eq_false_iff_not] at h7;unfold chanMayB chanHeadB chanFB;simp only;rw [hs];simp only [Bool.and_eq_true,decide_eq_true_eq,List.length_nil,List.all_nil];exact ⟨⟨hn.1,hn.2⟩,by have:=h7.1;omega,trivial⟩
def putChan (s:StateD) (k:Nat) (c:ChanD):StateD:=⟨s.globals,s.chans.set k c,s.procs,s.last,s.alone,s.claim⟩
theorem may_putc {m:ModelD} {s:StateD} (h:mayB m s=true) {c:ChanD} (hc:chanMayB m c=true) (i:Nat):mayB m (putChan s i c)=true:=by
 have k:=MayF.of h;refine MayF.may ⟨k.globals,by simp [putChan];exact k.nc,k.np,fun q hq=> ?_,k.procs,k.last,k.alone,k.claim⟩;rcases List.mem_or_eq_of_mem_set hq with hq | rfl
 · exact k.chans q hq
 · exact hc
def atLoc (tl:Int) (p:ProcessD):ProcessD:=⟨p.type,tl,p.prio,p.frame⟩
def putLoc (s:StateD) (k:Nat) (tl:Int):StateD:=⟨s.globals,s.chans,s.procs.modify k (atLoc tl),s.last,s.alone,s.claim⟩
theorem may_loc {m:ModelD} {s:StateD} (h:mayB m s=true) {i:Nat} {tl:Int} (ht:∀p t,s.procs[i]? =some p→m.procs[p.type.toNat]? =some t→0≤tl∧tl < t.locs.length):mayB m (putLoc s i tl)=true:=by
 have k:=MayF.of h;refine MayF.may ⟨k.globals,k.nc,by simp [putLoc];exact k.np,k.chans,fun q hq=> ?_,k.last,⟨k.alone.1,by have:=k.alone.2;simpa [putLoc] using this⟩,k.claim⟩;obtain ⟨j,hj,rfl⟩:=List.mem_iff_getElem.1 hq;simp only [putLoc,List.length_modify] at hj;simp only [putLoc];rw [List.getElem_modify];have hold:=k.procs _ (List.getElem_mem hj);split
 · rename_i e
   subst e;have h1:=fun t=>ht _ t (List.getElem?_eq_getElem hj)
   unfold procMayB procHeadB procFB at hold ⊢;simp only [Bool.and_eq_true] at hold ⊢;refine ⟨hold.1, ?_⟩;have h2:=hold.2;simp only [atLoc];split at h2
   · rename_i t ht2
     rw [ht2];have h3:=h1 t ht2;simp only [Bool.and_eq_true,decide_eq_true_eq] at h2;show (decide (0≤tl∧tl < t.locs.length∧s.procs[i].prio=t.prio) && fitsL t.frame s.procs[i].frame)=true;rw [Bool.and_eq_true,decide_eq_true_eq];exact ⟨⟨h3.1,h3.2,h2.1.2.2⟩,h2.2⟩
   · cases h2
 · exact hold
theorem end_alone (a:Int) (n:Nat) (h: -1≤a): -1≤ (if (n:Int)≤a then -1 else a)∧ (if (n:Int)≤a then -1 else a) < n:=by
 split <;> omega
def endS (s:StateD) (last:Int):StateD:=⟨s.globals,s.chans,s.procs,last,if (s.procs.length:Int)≤s.alone then -1 else s.alone,s.claim⟩
theorem may_end {m:ModelD} {s:StateD} (h:mayB m s=true) {l:Int} (hl:0≤l∧l < 16):mayB m (endS s l)=true:=by
 have k:=MayF.of h;have ha:=k.alone;refine MayF.may ⟨k.globals,k.nc,k.np,k.chans,k.procs,hl, ?_,k.claim⟩;exact end_alone _ _ ha.1
def cutS (s:StateD) (n:Nat):StateD:=⟨s.globals,s.chans,s.procs.take n,s.last,s.alone,s.claim⟩
theorem may_cut {m:ModelD} {s:StateD} (h:mayB m s=true) {n:Nat} {l:Int} (hl:0≤l∧l < 16):mayB m (endS (cutS s n) l)=true:=by
 have k:=MayF.of h;have ha:=k.alone;refine MayF.may ⟨k.globals,k.nc,by simp [endS,cutS];have:=k.np;omega,k.chans,fun q hq=>k.procs q (List.mem_of_mem_take hq),hl, ?_,k.claim⟩;exact end_alone _ _ ha.1
end Go.Proofs.YthfldokfnjpkmaaGreatDoor
