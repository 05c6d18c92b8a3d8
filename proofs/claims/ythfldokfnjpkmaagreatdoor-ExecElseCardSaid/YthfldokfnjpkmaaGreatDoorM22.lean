/- Can a statement be done, by itself, and to which error does it come? -/
import Derived.Test.YthfldokfnjpkmaaGreatDoorM21
import Derived.Test.YthfldokfnjpkmaaGreatDoorM13
set_option linter.unusedVariables false
set_option linter.unusedSimpArgs false
namespace Go.Proofs.YthfldokfnjpkmaaGreatDoor
open Go.ChangeShapes Go.WideShapes Go.ChangeAt Go.RowKit
theorem exprNo_get {E:EnvD} {k:Nat} {x:ExprD} (h:E.m.exprs[k]? =some x):exprNo E k=x:=by
 unfold exprNo;rw [Int.toNat_natCast,h];rfl
def askF (E:EnvD) (x:Int):Bool × Int:=if opE E x=39 then (decide ((E.s.procs.length:Int) < 16),0) else (decide ((evE E x).2≠0) || decide ((evE E x).1≠0),(evE E x).2)
theorem canF_1 {E:EnvD} {s:StmtD} (h:s.kind=1):canF E s=askF E s.a:=by unfold canF askF;simp [h]
theorem canF_2 {E:EnvD} {s:StmtD} (h:s.kind=2):canF E s=if opE E s.b≠39 then (true,0) else (decide ((E.s.procs.length:Int) < 16),0):=by
 unfold canF;by_cases ho:opE E s.b=39 <;> simp [h,ho]
theorem canF_5 {E:EnvD} {s:StmtD} (h:s.kind=5):canF E s= ((sndF E s).1,(sndF E s).2.2):=by unfold canF;simp [h]
theorem canF_6 {E:EnvD} {s:StmtD} (h:s.kind=6):canF E s= (decide ((rcvF E s).2.2≠0) || decide (0≤ (rcvF E s).2.1),(rcvF E s).2.2):=by unfold canF;simp [h]
theorem canF_9 {E:EnvD} {s:StmtD} (h:s.kind=9):canF E s= (decide ((E.s.chans.length:Int) < 32),0):=by unfold canF;simp [h]
theorem canF_t {E:EnvD} {s:StmtD} (h:s.kind=3∨s.kind=4∨s.kind=8):canF E s= (true,0):=by
 unfold canF;by_cases h2:s.kind=2
 · omega
 · simp [h,h2]
set_option maxRecDepth 100000 in
set_option maxHeartbeats 4000000 in
theorem canBeDoneC {B pe g a:Nat} {h:MH} {hs:SH} {ao:Option Addr} {ac:Nat} {E:EnvD} {s:StmtD} (w:World) (hk:Ek B w pe h hs ao ac E) (hok:Ok E) (hs1:stmtAt B w g a s) (hg:g < B) (hf:StF E.m s) (h7:s.kind≠7):
 Calls Tryz.prog 72 #[.pointer (some ⟨pe,0,none⟩),.pointer (some ⟨g,a,none⟩)] w fun e w'=>e= .returned (.tuple #[.bool (canF E s).1,.int .i64 (canF E s).2])∧Below w.heap.size w w':=by
 have HK:=Lib.hid hk;have HO:=Lib.hid hok;have HS:=Lib.hid hs1;have HF:=Lib.hid hf;have hgw:g < w.heap.size:=by have:=hk.leW;omega
 have hel:=hk.ck.md.exprs.1;have x0:=hs1.c0;have x1:=hs1.c1;have hcl:=hk.sk.sd.chans.1;have hpl:=hk.sk.sd.procs.1;have HK9:Hid (s.kind=1∨s.kind=2∨s.kind=3∨s.kind=4∨s.kind=5∨s.kind=6∨s.kind=8∨s.kind=9):=Lib.hid (by have:=hf.kind;omega);clear hk hok hs1 hf h7;go_enter Tryz.func72,Tryz.ntmps72;rcases HK9.out with hK | hK | hK | hK | hK | hK | hK | hK
 all_goals rw [hK] at x0
 all_goals (have HKK:=Lib.hid hK)
 all_goals clear hK HK9
 · have HV:=Lib.hid (canF_1 (E:=E) HKK.out);have hA:=HF.out.a (by have:=HKK.out;omega);obtain ⟨q,hq⟩:∃q:Nat,s.a=q:=⟨s.a.toNat,by omega⟩;have hql:q < E.m.exprs.length:=by omega
   obtain ⟨xx,hxx⟩:∃y,E.m.exprs[q]? =some y:=⟨_,List.getElem?_eq_getElem hql⟩;have HOP:Hid (opE E s.a=xx.op):=Lib.hid (by unfold opE;rw [hq,exprNo_get hxx]);have HEC:=Lib.hid (evalC HO.out q w (by omega) (by omega) HK.out);obtain ⟨ge,oe,e1,hge,hxa⟩:=HK.out.ck.md.exprs.get hxx;have c6:=HK.out.ck.c6;rw [e1] at c6;have c9:=HK.out.sk.c2;have z0:=hxa.c0;have hqi: (q:Int) < E.m.exprs.length:=by omega
   have hq0: (0:Int)≤q:=by omega
   rw [hq] at x1;obtain ⟨⟨v,er⟩,hev⟩:∃r,evE E s.a=r:=⟨_,rfl⟩;have hev2:evalF E E.m.exprs.length q= (v,er):=by rw [←hq];exact hev
   rw [hev2] at HEC;simp only at HEC;have HEV:=Lib.hid hev;clear hev hev2 e1 hxa hge hA hq hxx;by_cases ho:xx.op=39
   · have hd: (xx.op == 39)=true:=by simpa using ho
     obtain ⟨b,hb⟩:∃b,decide ((E.s.procs.length:Int) < 16)=b:=⟨_,rfl⟩;have HW:Hid (canF E s= (b,0)):=Lib.hid (by rw [HV.out];unfold askF;rw [HOP.out,if_pos ho,hb]);clear ho;go_wp2_with fail;rw [HW.out];refine bodyPost_ret (v:= .tuple #[.bool b,.int .i64 0]) (by simp [results,Tryz.results72,go_sem,hb]) rfl ?_;exact ⟨rfl,Below.refl _ _⟩
   have hd: (xx.op == 39)=false:=by simpa using ho
   have HW:Hid (canF E s= (decide (er≠0) || decide (v≠0),er)):=Lib.hid (by rw [HV.out];unfold askF;rw [HOP.out,if_neg ho,HEV.out]);clear ho;go_wp2_with fail;refine HEC.out.mono ?_;rintro e W1 ⟨rfl,hb1⟩;have HB1:=Lib.hid hb1;clear hb1 HEC x0 x1 c6 c9 z0;by_cases h0:er=0
   · have hd0: (er != 0)=false:=by rw [bne_eq_false_iff_eq];exact h0
     have HW2:Hid (canF E s= (v != 0,er)):=Lib.hid (by rw [HW.out,h0];by_cases hv:v=0 <;> simp [hv]);clear h0;go_wp2_with fail;rw [HW2.out];refine bodyPost_ret (v:= .tuple #[.bool (v != 0),.int .i64 er]) (by simp [results,Tryz.results72,go_sem]) rfl ?_;exact ⟨rfl,HB1.out⟩
   · have hd0: (er != 0)=true:=by rw [bne_iff_ne];exact h0
     have HW2:Hid (canF E s= (true,er)):=Lib.hid (by rw [HW.out];simp [h0]);clear h0;go_wp2_with fail;rw [HW2.out];refine bodyPost_ret (v:= .tuple #[.bool true,.int .i64 er]) (by simp [results,Tryz.results72,go_sem]) rfl ?_;exact ⟨rfl,HB1.out⟩
 · have HV:=Lib.hid (canF_2 (E:=E) HKK.out);have hA:=HF.out.b HKK.out;obtain ⟨q,hq⟩:∃q:Nat,s.b=q:=⟨s.b.toNat,by omega⟩;have hql:q < E.m.exprs.length:=by omega
   obtain ⟨xx,hxx⟩:∃y,E.m.exprs[q]? =some y:=⟨_,List.getElem?_eq_getElem hql⟩;have HOP:Hid (opE E s.b=xx.op):=Lib.hid (by unfold opE;rw [hq,exprNo_get hxx]);obtain ⟨ge,oe,e1,hge,hxa⟩:=HK.out.ck.md.exprs.get hxx;have hqi: (q:Int) < E.m.exprs.length:=by omega
   have hq0: (0:Int)≤q:=by omega
   have HQ:Hid (∀W,Below w.heap.size w W→W.cell? ⟨pe,6,none⟩=some (.slice (some ⟨ge,oe,none⟩) E.m.exprs.length h.ec)∧W.cell? ⟨pe,9,none⟩=some (.slice hs.po E.s.procs.length hs.pc)∧W.cell? ⟨ge,oe+q*12,none⟩=some (.int .i64 xx.op)∧W.cell? ⟨g,a+2,none⟩=some (.int .i64 q)):=Lib.hid fun W hb=>by
    have hk2:=HK.out.below hb;have hgl:ge < w.heap.size:=by have:=HK.out.leW;omega
    exact ⟨by rw [←e1];exact hk2.ck.c6,hk2.sk.c2,(hb.cell (p:=⟨ge,oe+q*12,none⟩) hgl).trans hxa.c0,(hb.cell (p:=⟨g,a+2,none⟩) hgw).trans (by rw [←hq];exact HS.out.c2)⟩
   obtain ⟨y6,y9,y0,y2⟩:=HQ.out w (Below.refl _ _);clear e1 hxa hge hA hq hxx;go_upto_region 4 with fail
   go_quiet (fail);have HB1:Hid (Below w.heap.size w (w.drewN nq)):=Lib.hid (bdrew (Below.refl _ _) nq);generalize w.drewN nq=W1 at HB1 ⊢;clear y6 y9 y0 y2 x0 x1;obtain ⟨y6,y9,y0,y2⟩:=HQ.out W1 HB1.out;by_cases ho:xx.op=39
   · have hd: (xx.op != 39)=false:=by rw [bne_eq_false_iff_eq];exact ho
     have hd2: (xx.op == 39)=true:=by simpa using ho
     obtain ⟨b,hb⟩:∃b,decide ((E.s.procs.length:Int) < 16)=b:=⟨_,rfl⟩;have HW:Hid (canF E s= (b,0)):=Lib.hid (by rw [HV.out,HOP.out,if_neg (fun h=>h ho),hb]);clear ho;go_wp2_with fail;rw [HW.out];refine bodyPost_ret (v:= .tuple #[.bool b,.int .i64 0]) (by simp [results,Tryz.results72,go_sem,hb]) rfl ?_;exact ⟨rfl,HB1.out⟩
   have hd: (xx.op != 39)=true:=by rw [bne_iff_ne];exact ho
   have HW:Hid (canF E s= (true,0)):=Lib.hid (by rw [HV.out,HOP.out,if_pos ho]);clear ho;go_wp2_with fail;rw [HW.out];refine bodyPost_ret (v:= .tuple #[.bool true,.int .i64 0]) (by simp [results,Tryz.results72,go_sem]) rfl ?_;exact ⟨rfl,HB1.out⟩
 · have HV:=Lib.hid (canF_t (E:=E) (s:=s) (by have:=HKK.out;omega));go_wp2_with fail;rw [HV.out];refine bodyPost_ret (v:= .tuple #[.bool true,.int .i64 0]) (by simp [results,Tryz.results72,go_sem]) rfl ?_;exact ⟨rfl,Below.refl _ _⟩
 · have HV:=Lib.hid (canF_t (E:=E) (s:=s) (by have:=HKK.out;omega));go_wp2_with fail;rw [HV.out];refine bodyPost_ret (v:= .tuple #[.bool true,.int .i64 0]) (by simp [results,Tryz.results72,go_sem]) rfl ?_;exact ⟨rfl,Below.refl _ _⟩
 · have HV:=Lib.hid (canF_5 (E:=E) HKK.out);have HSN:=Lib.hid (sendableC w HK.out HO.out HS.out hg (HF.out.a (by have:=HKK.out;omega)));obtain ⟨⟨b1,n1,e1⟩,hb⟩:∃q,sndF E s=q:=⟨_,rfl⟩;rw [hb] at HSN HV;simp only at HSN HV;clear hb;go_wp2_with fail;refine HSN.out.mono ?_;rintro e W1 ⟨rfl,hb1⟩;have HB1:=Lib.hid hb1;clear hb1 HSN x0 x1;go_wp2_with fail;rw [HV.out];refine bodyPost_ret (v:= .tuple #[.bool b1,.int .i64 e1]) (by simp [results,Tryz.results72,go_sem]) rfl ?_;exact ⟨rfl,HB1.out⟩
 · have HV:=Lib.hid (canF_6 (E:=E) HKK.out);have HSN:=Lib.hid (receivedC w HK.out HO.out HS.out hg HF.out HKK.out);obtain ⟨⟨n1,t1,e1⟩,hb⟩:∃q,rcvF E s=q:=⟨_,rfl⟩;rw [hb] at HSN HV;simp only at HSN HV;clear hb;go_wp2_with fail;refine HSN.out.mono ?_;rintro e W1 ⟨rfl,hb1⟩;have HB1:=Lib.hid hb1;clear hb1 HSN x0 x1;by_cases h0:e1=0
   · have hd0: (e1 != 0)=false:=by rw [bne_eq_false_iff_eq];exact h0
     have HW:Hid (canF E s= (decide (0≤t1),e1)):=Lib.hid (by rw [HV.out];simp [h0]);clear h0;go_wp2_with fail;rw [HW.out];refine bodyPost_ret (v:= .tuple #[.bool (decide (0≤t1)),.int .i64 e1]) (by simp [results,Tryz.results72,go_sem]) rfl ?_;exact ⟨rfl,HB1.out⟩
   · have hd0: (e1 != 0)=true:=by rw [bne_iff_ne];exact h0
     have HW:Hid (canF E s= (true,e1)):=Lib.hid (by rw [HV.out];simp [h0]);clear h0;go_wp2_with fail;rw [HW.out];refine bodyPost_ret (v:= .tuple #[.bool true,.int .i64 e1]) (by simp [results,Tryz.results72,go_sem]) rfl ?_;exact ⟨rfl,HB1.out⟩
 · have HV:=Lib.hid (canF_t (E:=E) (s:=s) (by have:=HKK.out;omega));go_wp2_with fail;rw [HV.out];refine bodyPost_ret (v:= .tuple #[.bool true,.int .i64 0]) (by simp [results,Tryz.results72,go_sem]) rfl ?_;exact ⟨rfl,Below.refl _ _⟩
 · have HV:=Lib.hid (canF_9 (E:=E) HKK.out);have c8:=HK.out.sk.c1;obtain ⟨b,hb⟩:∃b,decide ((E.s.chans.length:Int) < 32)=b:=⟨_,rfl⟩;rw [hb] at HV;go_wp2_with fail;rw [HV.out];refine bodyPost_ret (v:= .tuple #[.bool b,.int .i64 0]) (by simp [results,Tryz.results72,go_sem,hb]) rfl ?_;exact ⟨rfl,Below.refl _ _⟩
end Go.Proofs.YthfldokfnjpkmaaGreatDoor
namespace Go.Proofs.YthfldokfnjpkmaaGreatDoor
open Go.ChangeShapes Go.WideShapes Go.ChangeAt Go.RowKit
theorem getD_x {l:List Int} {i:Nat} (h:i < l.length):l.getD i 0=l[i]:=by simp [List.getD,h]
def okAt (want mat msg:List Int) (i:Nat):Bool:= !(decide (mat.getD i 0=1) && decide (want.getD i 0≠msg.getD i 0))
theorem tk_no1 {E:EnvD} {s:StmtD} {n:Int} {msg:List Int} (h:¬ (s.kind=6∧s.n≤1∧s.args.length=msg.length)):xTakesB E s n msg=false:=by unfold xTakesB;rw [decide_eq_false h];simp
theorem tk_no2 {E:EnvD} {s:StmtD} {n:Int} {msg:List Int} (h:¬ ((evE E s.a).2=0∧ (evE E s.a).1=n)):xTakesB E s n msg=false:=by unfold xTakesB;rw [decide_eq_false h];simp
theorem tk_no3 {E:EnvD} {s:StmtD} {n:Int} {msg:List Int} (h:¬ (wantE E s).2=0):xTakesB E s n msg=false:=by unfold xTakesB;rw [decide_eq_false h];simp
theorem tk_no4 {E:EnvD} {s:StmtD} {n:Int} {msg:List Int} {i:Nat} (hi:i < s.mat.length) (h:okAt (wantE E s).1 s.mat msg i=false):xTakesB E s n msg=false:=by
 unfold xTakesB;have : (List.range s.mat.length).all (okAt (wantE E s).1 s.mat msg)=false:=by
  rw [List.all_eq_false];exact ⟨i,List.mem_range.2 hi,by rw [h];simp⟩
 show (_ && _ && _ && (List.range s.mat.length).all (okAt (wantE E s).1 s.mat msg))=false;rw [this];simp
theorem tk_yes {E:EnvD} {s:StmtD} {n:Int} {msg:List Int} (h1:s.kind=6∧s.n≤1∧s.args.length=msg.length) (h2: (evE E s.a).2=0∧ (evE E s.a).1=n) (h3: (wantE E s).2=0) (h4:∀i,i < s.mat.length→okAt (wantE E s).1 s.mat msg i=true):xTakesB E s n msg=true:=by
 unfold xTakesB;have : (List.range s.mat.length).all (okAt (wantE E s).1 s.mat msg)=true:=List.all_eq_true.2 fun i hi=>h4 i (List.mem_range.1 hi)
 show (_ && _ && _ && (List.range s.mat.length).all (okAt (wantE E s).1 s.mat msg))=true;rw [this,decide_eq_true h1,decide_eq_true h2,decide_eq_true h3];rfl
set_option maxRecDepth 100000 in
set_option maxHeartbeats 4000000 in
theorem takesC {B b pe g a:Nat} {h:MH} {hs:SH} {ao:Option Addr} {ac:Nat} {E:EnvD} {s:StmtD} {msg:List Int} {uo:Option Addr} {uc:Nat} (n:Int) (w:World) (hk:Ek B w pe h hs ao ac E) (hok:Ok E) (hs1:stmtAt B w g a s) (hg:g < B) (hf:StF E.m s) (hb:b≤w.heap.size) (hm:Row b uo 1 (intAt w) msg):
 Calls Tryz.prog 159 #[.pointer (some ⟨pe,0,none⟩),.pointer (some ⟨g,a,none⟩),.int .i64 n,.slice uo msg.length uc] w fun e w'=>e= .returned (.bool (xTakesB E s n msg))∧Below w.heap.size w w':=by
 have HK:=Lib.hid hk;have HO:=Lib.hid hok;have HS:=Lib.hid hs1;have HF:=Lib.hid hf;have hgw:g < w.heap.size:=by have:=hk.leW;omega
 have HMS:Hid (∀W,Below w.heap.size w W→Row W.heap.size uo 1 (intAt W) msg):=Lib.hid fun W hbb=>(hm.mono fun _ _ _ hgg=>intAt.below (hbb.mono hb) hgg).up (Nat.le_trans hb hbb.size)
 have hml:=hm.1;have x0:=hs1.c0;have x3:=hs1.c3;obtain ⟨qo,qc,ha1,ha2⟩:=hs1.args;have hal:=ha2.1;clear hk hok hs1 hf hb hm;go_enter Tryz.func159,Tryz.ntmps159;by_cases k6:s.kind=6;rotate_left
 · have hd: (s.kind != 6)=true:=by rw [bne_iff_ne];exact k6
   have HV:=Lib.hid (tk_no1 (E:=E) (s:=s) (n:=n) (msg:=msg) (fun h=>k6 h.1));clear k6;go_wp2_with fail;go_ret;exact ⟨by rw [HV.out];rfl,Below.refl _ _⟩
 have hd6: (s.kind != 6)=false:=by rw [bne_eq_false_iff_eq];exact k6
 by_cases k1:1 < s.n
 · have hd1:decide (1 < s.n)=true:=decide_eq_true k1;have HV:=Lib.hid (tk_no1 (E:=E) (s:=s) (n:=n) (msg:=msg) (fun h=>by have:=h.2.1;omega));clear k1 k6;go_wp2_with fail;go_ret;exact ⟨by rw [HV.out];rfl,Below.refl _ _⟩
 have hd1:decide (1 < s.n)=false:=decide_eq_false k1;by_cases kl:s.args.length=msg.length;rotate_left
 · have hdl: ((s.args.length:Int) != msg.length)=true:=by rw [bne_iff_ne];omega
   have HV:=Lib.hid (tk_no1 (E:=E) (s:=s) (n:=n) (msg:=msg) (fun h=>kl h.2.2));clear k1 k6 kl;go_wp2_with fail;go_ret;exact ⟨by rw [HV.out];rfl,Below.refl _ _⟩
 have hdl: ((s.args.length:Int) != msg.length)=false:=by rw [bne_eq_false_iff_eq];omega
 have H1:Hid (s.kind=6∧s.n≤1∧s.args.length=msg.length):=Lib.hid ⟨k6,by omega,kl⟩;have x1:=HS.out.c1;have hA:=HF.out.a (by omega);have HEC:=Lib.hid (evalC HO.out s.a w hA.1 hA.2 HK.out);obtain ⟨⟨v,er⟩,hev⟩:∃r,evE E s.a=r:=⟨_,rfl⟩;have HEV:=Lib.hid hev;rw [show evalF E E.m.exprs.length s.a= (v,er) from hev] at HEC;simp only at HEC;have HAA:=Lib.hid ha1;clear k6 k1 kl hev hA;go_wp2_with fail;refine HEC.out.mono ?_;rintro e W1 ⟨rfl,hb1⟩;have HB1:=Lib.hid hb1;have HK1:=Lib.hid (HK.out.below hb1);clear hb1 HEC x0 x1 x3 ha1 hd6 hd1 hdl;by_cases h0:er=0;rotate_left
 · have hd0: (er != 0)=true:=by rw [bne_iff_ne];exact h0
   have HV:=Lib.hid (tk_no2 (E:=E) (n:=n) (msg:=msg) (s:=s) (by rw [HEV.out];exact fun h=>h0 h.1));clear h0;go_wp2_with fail;go_ret;exact ⟨by rw [HV.out];rfl,HB1.out⟩
 subst h0;by_cases hv:v=n;rotate_left
 · have hd0: (v != n)=true:=by rw [bne_iff_ne];exact hv
   have HV:=Lib.hid (tk_no2 (E:=E) (n:=n) (msg:=msg) (s:=s) (by rw [HEV.out];exact fun h=>hv h.2));clear hv;go_wp2_with fail;go_ret;exact ⟨by rw [HV.out];rfl,HB1.out⟩
 subst hv;have hd0: (v != v)=false:=by simp
 have H2:Hid ((evE E s.a).2=0∧ (evE E s.a).1=v):=Lib.hid (by rw [HEV.out];exact ⟨rfl,rfl⟩);go_upto_region 6 with fail
 clear hd0;obtain ⟨mo,mc,hm1,hm2⟩:=HS.out.mat;have hmatl:=hm2.1;have HQ:Hid (∀W,Below W1.heap.size W1 W→Below W1.heap.size W1 W∧W.cell? ⟨g,a+4,none⟩=some (.slice qo s.args.length qc)∧W.cell? ⟨g,a+5,none⟩=some (.slice mo s.mat.length mc)):=Lib.hid fun W hb=>
  have hB:=HB1.out.trans (hb.mono HB1.out.size)
  ⟨hb,(hB.cell (p:=⟨g,a+4,none⟩) hgw).trans HAA.out,(hB.cell (p:=⟨g,a+5,none⟩) hgw).trans hm1⟩
 have HRA:=Lib.hid (fun (W:World) (hb:Below W1.heap.size W1 W)=>wantedC (ev:=evalF E E.m.exprs.length) s.args s.mat qo mo qc mc W (HK1.out.below hb) (evalC HO.out) (ha2.mono fun _ _ _ hgg=>intAt.below ((HB1.out.trans (hb.mono HB1.out.size)).mono HK.out.leW) hgg) (hm2.mono fun _ _ _ hgg=>intAt.below ((HB1.out.trans (hb.mono HB1.out.size)).mono HK.out.leW) hgg) (HF.out.most (.inr H1.out.1)).2 (HF.out.mat H1.out.1) HF.out.args);have HRM:Hid (∀W,Below w.heap.size w W→Row W.heap.size mo 1 (intAt W) s.mat):=Lib.hid fun W hb=>(hm2.mono fun _ _ _ hgg=>intAt.below (hb.mono HK.out.leW) hgg).up (by have:=HK.out.leW;have:=hb.size;omega)
 obtain ⟨⟨want,er⟩,hwe⟩:∃q,wantE E s=q:=⟨_,rfl⟩;have HWE:=Lib.hid hwe;have hwe2:wantedF (evalF E E.m.exprs.length) (s.args.zip s.mat)= (want,er):=hwe;rw [hwe2] at HRA;clear hwe hwe2 hm1 hm2 ha2;by_cases h0:er=0;rotate_left
 · have hd0: (er != 0)=true:=by rw [bne_iff_ne];exact h0
   have HV:=Lib.hid (tk_no3 (E:=E) (n:=v) (msg:=msg) (s:=s) (by rw [HWE.out];exact h0));have HNE:=Lib.hid h0;clear h0
   go_region_held3 (fun W=>Below W1.heap.size W1 W∧W.cell? ⟨g,a+4,none⟩=some (.slice qo s.args.length qc)∧W.cell? ⟨g,a+5,none⟩=some (.slice mo s.mat.length mc))
    (first | assumption | with_reducible exact HQ.out _ (Below.refl _ _).drew | with_reducible exact HQ.out _ (by assumption))
    (first
      | (go_simp;go_at_call 116
         with_reducible refine (HRA.out _ (And.left (by assumption))).mono ?_
         rintro e W2 hwp;have hB2:Below W1.heap.size W1 W2:=keepS (And.left (by assumption)) hwp.bel;have hee:=hwp.no HNE.out;subst hee;clear hwp))
   all_goals (
    try simp only [Exit.inBlock,Exit.then]
    have HBZ:=Lib.hid (HB1.out.trans (hB2.mono HB1.out.size));go_wp2_with fail;go_ret;exact ⟨by rw [HV.out];rfl,HBZ.out⟩)
 subst h0
 go_cut [11,12] from 53 to 65 (fun v11 v12 W'=>∃wb:Nat,v12= .int .i64 0∧v11= .slice (some ⟨wb,0,none⟩) want.length s.args.length∧Hid (Row W'.heap.size (some ⟨wb,0,none⟩) 1 (intAt W') want∧want.length=s.args.length)∧Hid (Below W1.heap.size W1 W'))
 case first=>
  go_region_held3 (fun W=>Below W1.heap.size W1 W∧W.cell? ⟨g,a+4,none⟩=some (.slice qo s.args.length qc)∧W.cell? ⟨g,a+5,none⟩=some (.slice mo s.mat.length mc))
   (first | assumption | with_reducible exact HQ.out _ (Below.refl _ _).drew | with_reducible exact HQ.out _ (by assumption))
   (first
     | (go_simp;go_at_call 116
        with_reducible refine (HRA.out _ (And.left (by assumption))).mono ?_
        rintro e W2 hwp;have hB2:Below W1.heap.size W1 W2:=keepS (And.left (by assumption)) hwp.bel;obtain ⟨hee,hwl,hwr,hws⟩:=hwp.yes rfl;subst hee;have HWL:=Lib.hid hwl;clear hwp hwl))
  all_goals (
   try simp only [Exit.inBlock,Exit.then]
   have HZ1:=Lib.hid (And.intro (hwr.up hws) HWL.out);have HZ2:=Lib.hid hB2;clear hwr hws hB2;go_wp2_with fail;go_meet;exact ⟨_,rfl,rfl,HZ1,HZ2⟩)
 case rest=>
 obtain ⟨wb,rfl,rfl,HWR,HB2⟩:=hcut
 rename World=>W2
 have HC2:=Lib.hid (HB1.out.trans (HB2.out.mono HB1.out.size));have HWM:Hid (∀W,Below W2.heap.size W2 W→Row W.heap.size (some ⟨wb,0,none⟩) 1 (intAt W) want):=Lib.hid fun W hb=>(HWR.out.1.mono fun _ _ _ hgg=>intAt.below hb hgg).up hb.size
 have hwl:=HWR.out.1.1;have x5:W2.cell? ⟨g,a+5,none⟩=some (.slice mo s.mat.length mc):=(HQ.out W2 HB2.out).2.2;have HLL:Hid (s.mat.length=want.length∧s.mat.length=msg.length):=Lib.hid (by
  have h1:=HF.out.mat H1.out.1;have h2:=HWR.out.2;have h3:=H1.out.2.2;omega)
 clear HQ HRA;go_wp2_with fail
 go_loopw [73] (fun iv W=>∃i:Nat,iv= .int .i64 i∧i≤s.mat.length∧Hid (∀j,j < i→okAt want s.mat msg j=true)∧Hid (Below W2.heap.size W2 W)) (fun iv _=>s.mat.length - (intOf iv).toNat)
 case atStart=>exact ⟨0,rfl,by omega,Lib.hid fun j hj=>by omega,Lib.hid (Below.refl _ _)⟩
 case round=>
  obtain ⟨i,rfl,hi,HOK,HBW⟩:=hrel;have hi0: (0:Int)≤i:=by omega
  have HBB:=Lib.hid (HC2.out.trans (HBW.out.mono HC2.out.size));by_cases hlt:i < s.mat.length;rotate_left
  · have hlti:¬ (i:Int) < s.mat.length:=by omega
    have HV:=Lib.hid (tk_yes (E:=E) (n:=v) (msg:=msg) H1.out H2.out (by rw [HWE.out]) (fun j hj=>by rw [HWE.out];exact HOK.out j (by omega)));go_wp2_with fail;go_ret;exact ⟨by rw [HV.out];rfl,HBB.out⟩
  have hlti: (i:Int) < s.mat.length:=by omega
  have hi1:i < want.length:=by have:=HLL.out;omega
  have hi2:i < msg.length:=by have:=HLL.out;omega
  have hi3: (i:Int) < want.length:=by omega
  have hi4: (i:Int) < msg.length:=by omega
  obtain ⟨g1,o1,e1,-,d1⟩:=(HRM.out wr HBB.out).cell hlt;obtain ⟨g2,o2,e2,-,d2⟩:=(HWM.out wr HBW.out).cell hi1;obtain ⟨g3,o3,e3,-,d3⟩:=(HMS.out wr HBB.out).cell hi2;injection e2 with e2
  injection e2 with e2 e2'
  subst e1 e3;subst e2 e2';unfold intAt at d1 d2 d3;rw [Nat.mul_one] at d1 d2 d3;rw [Nat.zero_add] at d2;obtain ⟨A1,hA1⟩:∃q,s.mat[i]=q:=⟨_,rfl⟩;obtain ⟨A2,hA2⟩:∃q,want[i]=q:=⟨_,rfl⟩;obtain ⟨A3,hA3⟩:∃q,msg[i]=q:=⟨_,rfl⟩;have HAT:Hid (okAt want s.mat msg i= !(decide (A1=1) && decide (A2≠A3))):=Lib.hid (by
   unfold okAt;rw [getD_x hlt,getD_x hi1,getD_x hi2,hA1,hA2,hA3])
  rw [hA1] at d1;rw [hA2] at d2;rw [hA3] at d3;clear hA1 hA2 hA3;by_cases k1:A1=1;rotate_left
  · have hd1: (A1 == 1)=false:=by simpa using k1
    have HO2:Hid (∀j,j < i+1→okAt want s.mat msg j=true):=Lib.hid fun j hj=>by
     by_cases e:j=i
     · subst e;rw [HAT.out,decide_eq_false k1];rfl
     · exact HOK.out j (by omega)
    clear k1;go_upto_region 12 with fail
    go_quiet (fail);have HB3:Hid (Below W2.heap.size W2 (wr.drewN nq)):=Lib.hid (bdrew HBW.out nq);generalize wr.drewN nq=W3 at HB3 ⊢;go_wp2_with fail;go_roundw;case rel=>exact ⟨i+1,by go_num,by omega,HO2,HB3⟩
    case measure=>simp [intOf];omega
  have hd1: (A1 == 1)=true:=by simpa using k1
  by_cases k2:A2=A3
  · have hd2: (A2 != A3)=false:=by rw [bne_eq_false_iff_eq];exact k2
    have HO2:Hid (∀j,j < i+1→okAt want s.mat msg j=true):=Lib.hid fun j hj=>by
     by_cases e:j=i
     · subst e;rw [HAT.out,k2];simp
     · exact HOK.out j (by omega)
    clear k1 k2;go_upto_region 12 with fail
    go_quiet (fail);have HB3:Hid (Below W2.heap.size W2 (wr.drewN nq)):=Lib.hid (bdrew HBW.out nq);generalize wr.drewN nq=W3 at HB3 ⊢;go_wp2_with fail;go_roundw;case rel=>exact ⟨i+1,by go_num,by omega,HO2,HB3⟩
    case measure=>simp [intOf];omega
  have hd2: (A2 != A3)=true:=by rw [bne_iff_ne];exact k2
  have HV:=Lib.hid (tk_no4 (E:=E) (n:=v) (msg:=msg) (s:=s) hlt (by rw [HWE.out,HAT.out,decide_eq_true k1,decide_eq_true k2];rfl));clear k1 k2;go_upto_region 12 with fail
  go_quiet (fail);have HB3:Hid (Below w.heap.size w (wr.drewN nq)):=Lib.hid (bdrew HBB.out nq);generalize wr.drewN nq=W3 at HB3 ⊢;go_wp2_with fail;go_ret;exact ⟨by rw [HV.out];rfl,HB3.out⟩
end Go.Proofs.YthfldokfnjpkmaaGreatDoor
namespace Go.Proofs.YthfldokfnjpkmaaGreatDoor
open Go.ChangeShapes Go.WideShapes Go.ChangeAt Go.RowKit
structure RowS where
 e:TypeId
 size:Nat
 v:Value
 n:Nat
 xs:List Value
def rowNil:RowS:=⟨0,0,.slice none 0 0,0,[]⟩
def kG:Nat × Nat × Nat:=(0,0,0)
def kC:Nat × Nat × Nat:=(1,0,0)
def kP:Nat × Nat × Nat:=(2,0,0)
def kQ (i:Nat):Nat × Nat × Nat:=(3,i,0)
def kM (i j:Nat):Nat × Nat × Nat:=(4,i,j)
def kF (i:Nat):Nat × Nat × Nat:=(5,i,0)
structure Own (B:Nat) (w:World) (R:Nat × Nat × Nat→RowS):Prop where
 row:∀k,w.ownsRow B (R k).e (R k).size (R k).v (R k).n (R k).xs
 ne:∀k k',k≠k'→∀g,(R k).v.ownBlock=some g→ (R k').v.ownBlock≠some g
def upd (R:Nat × Nat × Nat→RowS) (k:Nat × Nat × Nat) (r:RowS):Nat × Nat × Nat→RowS:=fun q=>if q=k then r else R q
theorem upd_same (R:Nat × Nat × Nat→RowS) (k:Nat × Nat × Nat) (r:RowS):upd R k r k=r:=if_pos rfl
theorem upd_ne (R:Nat × Nat × Nat→RowS) {k q:Nat × Nat × Nat} (r:RowS) (h:q≠k):upd R k r q=R q:=if_neg h
theorem Own.nil (B:Nat) (w:World):Own B w (fun _=>rowNil):=⟨fun _=>World.ownsRow_nil _ _ _ _,fun _ _ _ g h=>by cases h⟩
theorem Own.below {B:Nat} {w w':World} {R:Nat × Nat × Nat→RowS} (h:Own B w R) (hb:Below w.heap.size w w'):Own B w' R:=⟨fun k=>owns_below (h.row k) hb,h.ne⟩
theorem Own.mono {B B':Nat} {w:World} {R:Nat × Nat × Nat→RowS} (h:Own B w R) (hB:B'≤B):Own B' w R:=⟨fun k=>Joins.ownsRow_le (h.row k) hB,h.ne⟩
theorem Own.put {B:Nat} {w w':World} {R:Nat × Nat × Nat→RowS} (h:Own B w R) (hB:B≤w.heap.size) (hb:Below w.heap.size w w') (k:Nat × Nat × Nat) (r:RowS) (hr:w'.ownsRow w.heap.size r.e r.size r.v r.n r.xs):Own B w' (upd R k r):=by
 refine ⟨fun q=> ?_,fun q q' hq g hg=> ?_⟩
 · by_cases e:q=k
   · rw [e,upd_same];exact Joins.ownsRow_le hr hB
   · rw [upd_ne R r e];exact owns_below (h.row q) hb
 · by_cases e:q=k
   · rw [e,upd_same] at hg;rw [upd_ne R r (fun e'=>hq (e.trans e'.symm))];intro h2;have:=((h.row q').lt g h2).2;have:=(hr.lt g hg).1;omega
   · rw [upd_ne R r e] at hg;by_cases e':q'=k
     · rw [e',upd_same];intro h2;have:=((h.row q).lt g hg).2;have:=(hr.lt g h2).1;omega
     · rw [upd_ne R r e'];exact h.ne q q' hq g hg
theorem Own.set {B:Nat} {w:World} {R:Nat × Nat × Nat→RowS} (h:Own B w R) (k:Nat × Nat × Nat) {g n c:Nat} (hv: (R k).v= .slice (some ⟨g,0,none⟩) n c) (hn: (R k).n=n) (j:Nat) (u:Value):Own B (w.setCell ⟨g,j,none⟩ u) (upd R k ⟨(R k).e,(R k).size,(R k).v,(R k).n,(R k).xs.set j u⟩):=by
 have hk:=h.row k;have hob: (R k).v.ownBlock=some g:=by rw [hv];rfl
 refine ⟨fun q=> ?_,fun q q' hq=> ?_⟩
 · by_cases e:q=k
   · rw [e,upd_same];simp only;rw [hv,hn] at hk ⊢;exact (hk.stored j u).1
   · rw [upd_ne R _ e];exact owns_set (h.row q) _ _ (fun h2=>h.ne k q (fun e2=>e e2.symm) g hob h2)
 · have key:∀q,(upd R k ⟨(R k).e,(R k).size,(R k).v,(R k).n,(R k).xs.set j u⟩ q).v= (R q).v:=fun q=>by
    by_cases e:q=k
    · rw [e,upd_same]
    · rw [upd_ne R _ e]
   rw [key,key];exact h.ne q q' hq
theorem Own.other {B:Nat} {w:World} {R:Nat × Nat × Nat→RowS} (h:Own B w R) (a:Addr) (u:Value) (hne:∀k,(R k).v.ownBlock≠some a.block):Own B (w.setCell a u) R:=⟨fun k=>owns_set (h.row k) _ _ (hne k),h.ne⟩
theorem Own.otherT {B:Nat} {w:World} {R:Nat × Nat × Nat→RowS} (h:Own B w R) {b:Nat} {cs:Array Value} {T:TypeId} {fr:Nat × Nat} (hb:w.heap[b]? =some (.cells cs T fr)) (hT:∀k,(R k).e≠T) (i:Nat) (u:Value):Own B (w.setCell ⟨b,i,none⟩ u) R:=
 h.other _ _ fun k=>owns_neObj (h.row k) hb (hT k)
theorem Own.low {B:Nat} {w:World} {R:Nat × Nat × Nat→RowS} (h:Own B w R) (a:Addr) (ha:a.block < B) (u:Value):Own B (w.setCell a u) R:=
 h.other _ _ fun k e=>by have:=((h.row k).lt _ e).1;omega
def intsV (l:List Int):List Value:=l.map (.int .i64)
def sl (o:Option Addr) (n c:Nat):Value:= .slice o n c
def IsInts (r:RowS) (l:List Int):Prop:=∃o c,r= ⟨2,1,.slice o l.length c,l.length,intsV l⟩
def IsMsgs (R:Nat × Nat × Nat→RowS) (i:Nat) (q:List (List Int)):Prop:=∃o c xs,R (kQ i)= ⟨82,1,.slice o q.length c,q.length,xs⟩∧∀j (hj:j < q.length),xs[j]? =some (R (kM i j)).v∧IsInts (R (kM i j)) q[j]
def IsChans (R:Nat × Nat × Nat→RowS) (o:Option Addr) (c:Nat) (l:List ChanD):Prop:=∃xs,R kC= ⟨81,2,.slice o l.length c,l.length,xs⟩∧∀i (hi:i < l.length),xs[i*2]? =some (.int .i64 l[i].shape)∧xs[i*2+1]? =some (R (kQ i)).v∧IsMsgs R i l[i].queue
def IsProcs (R:Nat × Nat × Nat→RowS) (o:Option Addr) (c:Nat) (l:List ProcessD):Prop:=∃xs,R kP= ⟨60,4,.slice o l.length c,l.length,xs⟩∧∀i (hi:i < l.length),xs[i*4]? =some (.int .i64 l[i].type)∧xs[i*4+1]? =some (.int .i64 l[i].loc)∧xs[i*4+2]? =some (.int .i64 l[i].prio)∧xs[i*4+3]? =some (R (kF i)).v∧IsInts (R (kF i)) l[i].frame
structure Spl (R:Nat × Nat × Nat→RowS) (h:SH) (s:StateD):Prop where
 g:R kG= ⟨2,1,.slice h.go s.globals.length h.gc,s.globals.length,intsV s.globals⟩
 c:IsChans R h.co h.cc s.chans
 p:IsProcs R h.po h.pc s.procs
structure Lens (s:StateD):Prop where
 g:s.globals.length≤140737488355328
 c:s.chans.length≤140737488355328
 p:s.procs.length≤140737488355328
 q:∀x ∈ s.chans,x.queue.length≤140737488355328∧∀y ∈ x.queue,y.length≤140737488355328
 f:∀x ∈ s.procs,x.frame.length≤140737488355328
theorem Row.lenW {α:Type} {B:Nat} {o:Option Addr} {k:Nat} {R:Nat→Nat→α→Prop} {l:List α} (h:Row B o k R l):l.length≤140737488355328:=h.1
theorem SD.lens {B:Nat} {w:World} {h:SH} {s:StateD} (d:SD B w h s):Lens s:=by
 refine ⟨d.globals.1,d.chans.1,d.procs.1,fun x hx=> ?_,fun x hx=> ?_⟩
 · obtain ⟨i,hi⟩:=List.mem_iff_getElem?.1 hx;obtain ⟨g,off,-,-,hc⟩:=d.chans.get hi;obtain ⟨o,c,-,hr⟩:=hc.queue;refine ⟨hr.1,fun y hy=> ?_⟩;obtain ⟨j,hj⟩:=List.mem_iff_getElem?.1 hy;obtain ⟨g2,off2,-,-,o2,c2,-,hr2⟩:=hr.get hj;exact hr2.1
 · obtain ⟨i,hi⟩:=List.mem_iff_getElem?.1 hx;obtain ⟨g,off,-,-,hc⟩:=d.procs.get hi;obtain ⟨o,c,-,hr⟩:=hc.frame;exact hr.1
theorem owns_row {w:World} {B size n:Nat} {e:TypeId} {o:Option Addr} {c:Nat} {xs:List Value} (h:w.ownsRow B e size (.slice o n c) n xs):n=0∨∃g,o=some ⟨g,0,none⟩∧B≤g∧g < w.heap.size∧∀j,j < n*size→w.cell? ⟨g,j,none⟩=xs[j]? :=by
 rcases Joins.ownsRow_forms h with ⟨-,h2⟩ | ⟨g,cap,hv⟩
 · exact .inl h2
 · injection hv with e1 e2 e3
   subst e1 e3;obtain ⟨h3,h4⟩:=h.lt g rfl;exact .inr ⟨g,rfl,h3,h4,fun j hj=>h.cellAt j hj⟩
theorem IsInts.row {w:World} {B:Nat} {r:RowS} {l:List Int} (h:IsInts r l) (hl:l.length≤140737488355328) (ho:w.ownsRow B r.e r.size r.v r.n r.xs):∃o c,r.v= .slice o l.length c∧Row w.heap.size o 1 (intAt w) l:=by
 obtain ⟨o,c,rfl⟩:=h;dsimp only at ho;refine ⟨o,c,rfl,hl, ?_⟩;rcases owns_row ho with h0 | ⟨g,rfl,-,hg,hc⟩
 · exact .inl h0
 · refine .inr ⟨g,0,rfl,hg,fun i hi=> ?_⟩;have:=hc i (by omega);unfold intAt;rw [show 0+i*1=i from by omega,this];simp [intsV,hi]
theorem Spl.sd {B:Nat} {w:World} {R:Nat × Nat × Nat→RowS} {h:SH} {s:StateD} (hs:Spl R h s) (ho:Own B w R) (hl:Lens s):SD w.heap.size w h s:=by
 refine ⟨?_, ?_, ?_⟩
 · obtain ⟨o,c,h1,h2⟩:=IsInts.row (w:=w) ⟨_,_,hs.g⟩ hl.g (ho.row kG);rw [hs.g] at h1;injection h1 with e1 _ _
   rw [e1];exact h2
 · obtain ⟨xs,hx,hi⟩:=hs.c;have hr:=ho.row kC;rw [hx] at hr;dsimp only at hr;refine ⟨hl.c, ?_⟩;rcases owns_row hr with h0 | ⟨g,e,-,hg,hc⟩
   · exact .inl h0
   · refine .inr ⟨g,0,e,hg,fun i hi'=> ?_⟩;obtain ⟨x0,x1,o,c,ys,hq,hm⟩:=hi i hi';have hlq:=hl.q s.chans[i] (List.getElem_mem hi');refine ⟨?_,o,c, ?_,hlq.1, ?_⟩
     · rw [←x0,←hc (i*2) (by omega)];congr 2;omega
     · rw [hq] at x1;rw [←x1,←hc (i*2+1) (by omega)];congr 2;omega
     · have hr2:=ho.row (kQ i);rw [hq] at hr2;dsimp only at hr2;rcases owns_row hr2 with h0 | ⟨g2,e2,-,hg2,hc2⟩
       · exact .inl h0
       · refine .inr ⟨g2,0,e2,hg2,fun j hj=> ?_⟩;obtain ⟨y0,y1⟩:=hm j hj;obtain ⟨o3,c3,h3,h4⟩:=y1.row (hlq.2 _ (List.getElem_mem hj)) (ho.row (kM i j));refine ⟨o3,c3, ?_,h4⟩;rw [←h3,←y0,←hc2 j (by omega)];congr 2;omega
 · obtain ⟨xs,hx,hi⟩:=hs.p;have hr:=ho.row kP;rw [hx] at hr;dsimp only at hr;refine ⟨hl.p, ?_⟩;rcases owns_row hr with h0 | ⟨g,e,-,hg,hc⟩
   · exact .inl h0
   · refine .inr ⟨g,0,e,hg,fun i hi'=> ?_⟩;obtain ⟨x0,x1,x2,x3,x4⟩:=hi i hi';obtain ⟨o3,c3,h3,h4⟩:=x4.row (hl.f _ (List.getElem_mem hi')) (ho.row (kF i));rw [h3] at x3;refine ⟨?_, ?_, ?_,o3,c3, ?_,h4⟩
     · rw [←x0,←hc (i*4) (by omega)];congr 2;omega
     · rw [←x1,←hc (i*4+1) (by omega)];congr 2;omega
     · rw [←x2,←hc (i*4+2) (by omega)];congr 2;omega
     · rw [←x3,←hc (i*4+3) (by omega)];congr 2;omega
def SO (B:Nat) (w:World) (h:SH) (s:StateD):Prop:=∃R,Own B w R∧Spl R h s
theorem SO.below {B:Nat} {w w':World} {h:SH} {s:StateD} (o:SO B w h s) (hb:Below w.heap.size w w'):SO B w' h s:=by
 obtain ⟨R,h1,h2⟩:=o;exact ⟨R,h1.below hb,h2⟩
theorem SO.sd {B:Nat} {w:World} {h:SH} {s:StateD} (o:SO B w h s) (hl:Lens s):SD w.heap.size w h s:=by
 obtain ⟨R,h1,h2⟩:=o;exact h2.sd h1 hl
end Go.Proofs.YthfldokfnjpkmaaGreatDoor
