/- Whose list the ways of a process are of; an else is there alone. -/
import Derived.Test.YthfldokfnjpkmaaGreatDoorM31
import Derived.Test.YthfldokfnjpkmaaGreatDoorM32
import Derived.Test.YthfldokfnjpkmaaGreatDoorM33
set_option linter.unusedVariables false
set_option linter.unusedSimpArgs false
namespace Go.Proofs.YthfldokfnjpkmaaGreatDoor
def listE (E:EnvD) (esc:Int):List TransD:=if esc < 0 then (placeE E).out else (placeE E).esc.getD esc.toNat []
theorem mem_meet {E:EnvD} {esc way n:Int} {msg:List Int} {w:WayD}:∀ {q:Nat},w ∈ meetF E esc way n msg q→w.esc=esc∧w.way=way
 | 0,h=>by simp [meetF] at h
 | q+1,h=>by
   rw [meetF] at h;rcases List.mem_append.1 h with h | h
   · exact mem_meet h
   · split at h
     · simp at h
     · obtain ⟨v,-,rfl⟩:=List.mem_map.1 h;exact ⟨rfl,rfl⟩
theorem mem_sends {E:EnvD} {esc way:Int} {s:StmtD} {w:WayD} (h:w ∈ sendsF E esc way s):w.esc=esc∧w.way=way:=by
 unfold sendsF at h;split at h
 · rw [List.mem_singleton.1 h];exact ⟨rfl,rfl⟩
 · split at h
   · simp at h
   · split at h
     · rw [List.mem_singleton.1 h];exact ⟨rfl,rfl⟩
     · exact mem_meet h
theorem mem_one {E:EnvD} {esc:Int} {i:Nat} {t:TransD} {w:WayD} (h:w ∈ oneF E esc i t):w.esc=esc∧w.way=i∧t.s.kind≠7:=by
 unfold oneF at h;split at h
 · simp at h
 · rename_i h7
   split at h
   · exact ⟨(mem_sends h).1,(mem_sends h).2,h7⟩
   · split at h
     · rw [List.mem_singleton.1 h];exact ⟨rfl,rfl,h7⟩
     · simp at h
theorem mem_out {E:EnvD} {esc:Int} {w:WayD}:∀ {l:List TransD} {i:Nat},w ∈ outF E esc i l→w.esc=esc∧∃ (k:Nat) (t:TransD),l[k]? =some t∧w.way= ((i+k:Nat):Int)∧t.s.kind≠7
 | [],i,h=>by simp [outF] at h
 | t :: r,i,h=>by
   rw [outF] at h;rcases List.mem_append.1 h with h | h
   · obtain ⟨h1,h2,h3⟩:=mem_one h;exact ⟨h1,0,t,rfl,h2,h3⟩
   · obtain ⟨h1,k,t',h2,h3,h4⟩:=mem_out h;exact ⟨h1,k+1,t',by simpa using h2,by rw [h3];congr 1;omega,h4⟩
theorem mem_else {esc:Int} {w:WayD}:∀ {l:List TransD} {i:Nat},w ∈ elseF esc i l→w.esc=esc∧∃ (k:Nat) (t:TransD),l[k]? =some t∧w.way= ((i+k:Nat):Int)∧t.s.kind=7
 | [],i,h=>by simp [elseF] at h
 | t :: r,i,h=>by
   rw [elseF] at h;rcases List.mem_append.1 h with h | h
   · split at h
     · rename_i h7
       rw [List.mem_singleton.1 h];exact ⟨rfl,0,t,rfl,rfl,h7⟩
     · simp at h
   · obtain ⟨h1,k,t',h2,h3,h4⟩:=mem_else h;exact ⟨h1,k+1,t',by simpa using h2,by rw [h3];congr 1;omega,h4⟩
def OfList (esc:Int) (l:List TransD) (L:List WayD):Prop:=∃b:Bool,∀w ∈ L,w.esc=esc∧∃ (k:Nat) (t:TransD),l[k]? =some t∧w.way= (k:Int)∧ (decide (t.s.kind=7))=b
theorem listed_of (E:EnvD) (esc:Int) (l:List TransD):OfList esc l (listedF E esc l):=by
 unfold listedF;split
 · refine ⟨true,fun w hw=> ?_⟩;obtain ⟨h1,k,t,h2,h3,h4⟩:=mem_else hw;exact ⟨h1,k,t,h2,by rw [h3,Nat.zero_add],decide_eq_true h4⟩
 · refine ⟨false,fun w hw=> ?_⟩;obtain ⟨h1,k,t,h2,h3,h4⟩:=mem_out hw;exact ⟨h1,k,t,h2,by rw [h3,Nat.zero_add],decide_eq_false h4⟩
theorem waysL_of (E:EnvD):∀ (l:List (List TransD)) (i:Nat) (o:List TransD),OfList (-1) o (xWaysL E i l o)∨∃ (k:Nat) (e:List TransD),l[k]? =some e∧OfList ((i+k:Nat):Int) e (xWaysL E i l o)
 | [],i,o=> .inl (listed_of E (-1) o)
 | e :: r,i,o=>by
   rw [xWaysL];split
   · exact .inr ⟨0,e,rfl,listed_of E _ e⟩
   · rcases waysL_of E r (i+1) o with h | ⟨k,e',h1,h2⟩
     · exact .inl (by push_cast at h;exact h)
     · refine .inr ⟨k+1,e',by simpa using h1, ?_⟩;rw [show i+ (k+1)=i+1+k by omega]
       push_cast at h2 ⊢
       exact h2
theorem ways_of (E:EnvD): (∃w,waysF E= [w]∧w.way= -1∧w.who= -1∧w.wesc= -1∧w.wway= -1)∨∃esc:Int,-1≤esc∧ (0≤esc→esc < (placeE E).esc.length)∧OfList esc (listE E esc) (waysF E):=by
 unfold waysF;split
 · split
   · exact .inl ⟨noneW,rfl,rfl,rfl,rfl,rfl⟩
   · exact .inr ⟨-1,by omega,by omega,⟨true,fun w hw=>by cases hw⟩⟩
 · split
   · exact .inl ⟨_,rfl,rfl,rfl,rfl,rfl⟩
   · split
     · exact .inr ⟨-1,by omega,by omega,⟨true,fun w hw=>by cases hw⟩⟩
     · rcases waysL_of E (placeE E).esc 0 (placeE E).out with h | ⟨k,e,h1,h2⟩
       · exact .inr ⟨-1,by omega,by omega,h⟩
       · refine .inr ⟨k,by omega,fun _=>by have:=(List.getElem?_eq_some_iff.1 h1).1;omega, ?_⟩;rw [Nat.zero_add] at h2;have h3:listE E k=e:=by
          unfold listE;rw [if_neg (by omega),Int.toNat_natCast,List.getD_eq_getElem?_getD,h1];rfl
         rw [h3];exact h2
end Go.Proofs.YthfldokfnjpkmaaGreatDoor
namespace Go.Proofs.YthfldokfnjpkmaaGreatDoor
def trD0:TransD:=⟨⟨0,0,0,0,[],[],ByteArray.empty⟩,0,0⟩
def atPid (E:EnvD) (k:Int):EnvD:={ E with pid:=k }
def transE (F:EnvD) (esc way:Int):TransD:=(listE F esc).getD way.toNat trD0
def setX (F:EnvD) (x v:Int):StateD × Int:=
 if (rslotB F (evE F) (exprNo F x)).2.2≠0 then (F.s,(rslotB F (evE F) (exprNo F x)).2.2) else (setS F (rslotB F (evE F) (exprNo F x)).1 (rslotB F (evE F) (exprNo F x)).2.1 v,0)
def procNo (m:ModelD) (n:Int):ProcD:=m.procs[n.toNat]?.getD ⟨ByteArray.empty,0,[],[],[],0,0,0,0,-1⟩
def runX (E:EnvD) (x:Int):StateD × Int × Int:=
 if (allF (evE E) (exprNo E x).args).2≠0 then (E.s,0,(allF (evE E) (exprNo E x).args).2)
 else (addProc E.s (beginD (exprNo E x).n (procNo E.m (exprNo E x).n) (allF (evE E) (exprNo E x).args).1),E.s.procs.length,0)
def assignX (E:EnvD) (s:StmtD):StateD × Int:=
 if opE E s.b=39 then (if (runX E s.b).2.2≠0 then (E.s,(runX E s.b).2.2) else setX (withS E (runX E s.b).1) s.a (runX E s.b).2.1)
 else if (evE E s.b).2≠0 then (E.s,(evE E s.b).2) else setX E s.a (evE E s.b).1
def handX (F:EnvD):List (Int × Int)→List Int→StateD × Int
 | z :: r,v :: q=>if z.2≠0 then handX F r q else if (setX F z.1 v).2≠0 then (F.s,(setX F z.1 v).2) else handX (withS F (setX F z.1 v).1) r q
 | _,_=>(F.s,0)
end Go.Proofs.YthfldokfnjpkmaaGreatDoor
namespace Go.Proofs.YthfldokfnjpkmaaGreatDoor
open Go.ChangeShapes Go.WideShapes Go.ChangeAt Go.RowKit
def TrnP (g off:Nat) (w:World) (e:Ending) (w':World):Prop:=e= .returned (.pointer (some ⟨g,off,none⟩))∧∃n,w'=w.drewN n
set_option maxRecDepth 100000 in
set_option maxHeartbeats 4000000 in
theorem transC {B pe k tk kl j:Nat} {h:MH} {hs:SH} {ao:Option Addr} {ac:Nat} {E:EnvD} {p:ProcessD} {t:ProcD} {l:LocD} {esc:Int} {tt:TransD} (w:World) (hk:Ek B w pe h hs ao ac E) (hf:PF (atPid E k) k tk kl p t l) (he2:0≤esc→esc < l.esc.length) (hw: (listE (atPid E k) esc)[j]? =some tt):
 ∃g off,g < B∧transAt B w g off tt∧∀W,Below w.heap.size w W→Calls Tryz.prog 45 #[.pointer (some ⟨pe,0,none⟩),.int .i64 k,.int .i64 esc,.int .i64 j] W (TrnP g off W):=by
 obtain ⟨g,off,ho,hg,hpa⟩:=hk.sk.sd.procs.get hf.hp;obtain ⟨g2,off2,ho2,hg2,hta⟩:=hk.ck.md.procs.get hf.ht;obtain ⟨o3,c3,hl1,hl2⟩:=hta.locs;obtain ⟨g3,off3,rfl,hg3,hla⟩:=hl2.get hf.hl;obtain ⟨oo,oc,ho1,hor⟩:=hla.out;obtain ⟨eo,ec,he1,her⟩:=hla.esc;have hkl:=(List.getElem?_eq_some_iff.1 hf.hp).1;have htl:=(List.getElem?_eq_some_iff.1 hf.ht).1;have hll:=(List.getElem?_eq_some_iff.1 hf.hl).1;have hki: (k:Int) < E.s.procs.length:=by have :k < E.s.procs.length:=hkl;omega
 have hti: (tk:Int) < E.m.procs.length:=by have :tk < E.m.procs.length:=htl;omega
 have hlli: (kl:Int) < t.locs.length:=by omega
 have hk0: (0:Int)≤k:=by omega
 have ht0: (0:Int)≤tk:=by omega
 have hl0: (0:Int)≤kl:=by omega
 have hj0: (0:Int)≤j:=by omega
 have hpl:=hk.sk.sd.procs.1;have hml:=hk.ck.md.procs.1;have hlol:=hl2.1;have HQ:Hid (∀W,Below w.heap.size w W→W.cell? ⟨pe,9,none⟩=some (.slice (some ⟨g,off,none⟩) E.s.procs.length hs.pc)∧W.cell? ⟨pe,4,none⟩=some (.slice (some ⟨g2,off2,none⟩) E.m.procs.length h.pc)∧W.cell? ⟨g,off+k*4,none⟩=some (.int .i64 tk)∧W.cell? ⟨g,off+k*4+1,none⟩=some (.int .i64 kl)∧W.cell? ⟨g2,off2+tk*10+4,none⟩=some (.slice (some ⟨g3,off3,none⟩) t.locs.length c3)∧W.cell? ⟨g3,off3+kl*7,none⟩=some (.slice oo l.out.length oc)∧W.cell? ⟨g3,off3+kl*7+1,none⟩=some (.slice eo l.esc.length ec)):=Lib.hid fun W hb=>by
  have hk2:=hk.below hb;have hlw:=hk.leW;exact ⟨by rw [←show hs.po=some ⟨g,off,none⟩ from ho];exact hk2.sk.c2,by rw [←show h.po=some ⟨g2,off2,none⟩ from ho2];exact hk2.ck.c4,(hb.cell (p:=⟨g,off+k*4,none⟩) (by show g < _;omega)).trans (by rw [←hf.etk];exact hpa.c0),(hb.cell (p:=⟨g,off+k*4+1,none⟩) (by show g < _;omega)).trans (by rw [←hf.ekl];exact hpa.c1),(hb.cell (p:=⟨g2,off2+tk*10+4,none⟩) (by show g2 < _;omega)).trans hl1,(hb.cell (p:=⟨g3,off3+kl*7,none⟩) (by show g3 < _;omega)).trans ho1,(hb.cell (p:=⟨g3,off3+kl*7+1,none⟩) (by show g3 < _;omega)).trans he1⟩
 have HLE:=Lib.hid hk.leW;unfold listE at hw;rw [hf.e3] at hw;by_cases hneg:esc < 0
 · rw [if_pos hneg] at hw;obtain ⟨g5,off5,rfl,hg5,htt⟩:=hor.get hw;refine ⟨g5,off5+j*9,hg5,htt,fun W hb=> ?_⟩;have hol:=hor.1;have hjl: (j:Int) < l.out.length:=by have:=(List.getElem?_eq_some_iff.1 hw).1;omega
   have hd:decide (esc < 0)=true:=decide_eq_true hneg;obtain ⟨x9,x4,x0,x1,y0,y1,y2⟩:=HQ.out W hb;clear hk hf hw hpa hta hl1 hl2 hla ho1 hor he1 her htt hneg he2 ho ho2;go_enter Tryz.func45,Tryz.ntmps45;go_wp2_with fail;go_quiet (fail);have HB2:Hid (Below w.heap.size w (W.drewN nq)):=Lib.hid (bdrew hb nq);have HP:Hid (TrnP g5 (off5+j*9) W (.returned (.pointer (some ⟨g5,off5+j*9,none⟩))) (W.drewN nq)):=Lib.hid ⟨rfl,nq,rfl⟩;clear x9 x4 x0 x1 y0 y1 y2;obtain ⟨x9,x4,x0,x1,y0,y1,y2⟩:=HQ.out _ HB2.out;generalize W.drewN nq=W2 at HB2 HP x9 x4 x0 x1 y0 y1 y2 ⊢;go_wp2_with fail;go_ret;exact HP.out
 · rw [if_neg hneg] at hw;obtain ⟨e,rfl⟩:∃e:Nat,esc=e:=⟨esc.toNat,by omega⟩;have hel:e < l.esc.length:=by have:=he2 (by omega);omega
   rw [Int.toNat_natCast,List.getD_eq_getElem?_getD,List.getElem?_eq_getElem hel] at hw;obtain ⟨g4,off4,rfl,hg4,hea⟩:=her.cell hel;obtain ⟨lo,lc,hr1,hr2⟩:=hea;rw [Nat.mul_one] at hr1;obtain ⟨g5,off5,rfl,hg5,htt⟩:=hr2.get hw;refine ⟨g5,off5+j*9,hg5,htt,fun W hb=> ?_⟩;have hol:=hr2.1;have hesl:=her.1;have hjl: (j:Int) < l.esc[e].length:=by have :j < l.esc[e].length:=(List.getElem?_eq_some_iff.1 hw).1;omega
   have heli: (e:Int) < l.esc.length:=by omega
   have he0: (0:Int)≤e:=by omega
   have hd:decide ((e:Int) < 0)=false:=decide_eq_false hneg;have HR:Hid (∀W,Below w.heap.size w W→W.cell? ⟨g4,off4+e,none⟩=some (.slice (some ⟨g5,off5,none⟩) l.esc[e].length lc)):=Lib.hid fun W hb=>(hb.cell (p:=⟨g4,off4+e,none⟩) (by have:=HLE.out;show g4 < _;omega)).trans hr1
   obtain ⟨x9,x4,x0,x1,y0,y1,y2⟩:=HQ.out W hb;have y3:=HR.out W hb;clear hk hf hw hpa hta hl1 hl2 hla ho1 hor he1 her htt hneg he2 ho ho2 hr1 hr2;go_enter Tryz.func45,Tryz.ntmps45;go_wp2_with fail;go_quiet (fail);have HB2:Hid (Below w.heap.size w (W.drewN nq)):=Lib.hid (bdrew hb nq);have HP:Hid (TrnP g5 (off5+j*9) W (.returned (.pointer (some ⟨g5,off5+j*9,none⟩))) (W.drewN nq)):=Lib.hid ⟨rfl,nq,rfl⟩;clear x9 x4 x0 x1 y0 y1 y2 y3;obtain ⟨x9,x4,x0,x1,y0,y1,y2⟩:=HQ.out _ HB2.out;have y3:=HR.out _ HB2.out;generalize W.drewN nq=W2 at HB2 HP x9 x4 x0 x1 y0 y1 y2 y3 ⊢;go_wp2_with fail;go_ret;exact HP.out
end Go.Proofs.YthfldokfnjpkmaaGreatDoor
namespace Go.Proofs.YthfldokfnjpkmaaGreatDoor
open Go.ChangeShapes Go.WideShapes Go.ChangeAt Go.RowKit
def wayA (x:WayD):Array Value:=#[.int .i64 x.esc,.int .i64 x.way,.int .i64 x.who,.int .i64 x.wesc,.int .i64 x.wway,.int .i64 x.err]
theorem way_ext {x y:WayD} (h0:x.esc=y.esc) (h1:x.way=y.way) (h2:x.who=y.who) (h3:x.wesc=y.wesc) (h4:x.wway=y.wway) (h5:x.err=y.err):x=y:=by
 cases x;cases y;simp_all
theorem way_cmp (x y:WayD): (x=y∧ (x.esc == y.esc)=true∧ (x.way == y.way)=true∧ (x.who == y.who)=true∧ (x.wesc == y.wesc)=true∧ (x.wway == y.wway)=true∧ (x.err == y.err)=true)∨
 (x≠y∧ (x.esc == y.esc)=false)∨ (x≠y∧ (x.esc == y.esc)=true∧ (x.way == y.way)=false)∨ (x≠y∧ (x.esc == y.esc)=true∧ (x.way == y.way)=true∧ (x.who == y.who)=false)∨
 (x≠y∧ (x.esc == y.esc)=true∧ (x.way == y.way)=true∧ (x.who == y.who)=true∧ (x.wesc == y.wesc)=false)∨
 (x≠y∧ (x.esc == y.esc)=true∧ (x.way == y.way)=true∧ (x.who == y.who)=true∧ (x.wesc == y.wesc)=true∧ (x.wway == y.wway)=false)∨
 (x≠y∧ (x.esc == y.esc)=true∧ (x.way == y.way)=true∧ (x.who == y.who)=true∧ (x.wesc == y.wesc)=true∧ (x.wway == y.wway)=true∧ (x.err == y.err)=false):=by
 simp only [beq_iff_eq,beq_eq_false_iff_ne];by_cases e0:x.esc=y.esc
 · by_cases e1:x.way=y.way
   · by_cases e2:x.who=y.who
     · by_cases e3:x.wesc=y.wesc
       · by_cases e4:x.wway=y.wway
         · by_cases e5:x.err=y.err
           · exact .inl ⟨way_ext e0 e1 e2 e3 e4 e5,e0,e1,e2,e3,e4,e5⟩
           · exact .inr (.inr (.inr (.inr (.inr (.inr ⟨fun h=>e5 (by rw [h]),e0,e1,e2,e3,e4,e5⟩)))))
         · exact .inr (.inr (.inr (.inr (.inr (.inl ⟨fun h=>e4 (by rw [h]),e0,e1,e2,e3,e4⟩)))))
       · exact .inr (.inr (.inr (.inr (.inl ⟨fun h=>e3 (by rw [h]),e0,e1,e2,e3⟩))))
     · exact .inr (.inr (.inr (.inl ⟨fun h=>e2 (by rw [h]),e0,e1,e2⟩)))
   · exact .inr (.inr (.inl ⟨fun h=>e1 (by rw [h]),e0,e1⟩))
 · exact .inr (.inl ⟨fun h=>e0 (by rw [h]),e0⟩)
def IdxP (x:WayD) (L:List WayD) (w:World) (e:Ending) (w':World):Prop:=∃i:Int,e= .returned (.int .i64 i)∧ (0≤i↔x ∈ L)∧Below w.heap.size w w'
def ConP (x:WayD) (L:List WayD) (w:World) (e:Ending) (w':World):Prop:=∃b:Bool,e= .returned (.bool b)∧ (b=true↔x ∈ L)∧Below w.heap.size w w'
set_option maxRecDepth 100000 in
set_option maxHeartbeats 4000000 in
theorem indexW {B c:Nat} {o:Option Addr} {L:List WayD} (x:WayD) (w:World) (hr:w.ownsRow B 39 6 (.slice o L.length c) L.length (waysV L)) (hL:L.length≤9223372036854775807):
 Calls Tryz.prog 37 #[.slice o L.length c,.agg #[.int .i64 x.esc,.int .i64 x.way,.int .i64 x.who,.int .i64 x.wesc,.int .i64 x.wway,.int .i64 x.err]] w (IdxP x L w):=by
 have hbox:=heap_alloc_new w (.cells #[.int .i64 x.esc,.int .i64 x.way,.int .i64 x.who,.int .i64 x.wesc,.int .i64 x.wway,.int .i64 x.err] 39);have hb:=ball (w:=w) (.cells #[.int .i64 x.esc,.int .i64 x.way,.int .i64 x.who,.int .i64 x.wesc,.int .i64 x.wway,.int .i64 x.err] 39);have HR:=Lib.hid (owns_below hr hb);have HB:=Lib.hid hb;have HBX:=Lib.hid hbox;clear hr hb hbox;go_enter Tryz.func37,Tryz.ntmps37;go_upto_region 1 with fail
 generalize w.alloc (.cells #[.int .i64 x.esc,.int .i64 x.way,.int .i64 x.who,.int .i64 x.wesc,.int .i64 x.wway,.int .i64 x.err] 39)=W1 at HR HB HBX ⊢;go_wp2_with fail
 go_loopw [8] (fun iv W'=>∃ (i:Nat),iv= .int .i64 i∧i≤L.length∧Hid (Below W1.heap.size W1 W'∧∀j y,j < i→L[j]? =some y→y≠x)) (fun iv _=>L.length - (intOf iv).toNat)
 case atStart=>exact ⟨0,rfl,by omega,Lib.hid ⟨Below.refl _ _,fun j y h=>by omega⟩⟩
 case round=>
  obtain ⟨i,rfl,hi,HX⟩:=hrel;have hi0: (0:Int)≤i:=by omega
  have HBW:Hid (Below w.heap.size w wr):=Lib.hid (HB.out.trans (HX.out.1.mono HB.out.size));by_cases hlt:i < L.length;rotate_left
  · have hlti:¬ (i:Int) < L.length:=by omega
    have HP:Hid (IdxP x L w (.returned (.int .i64 (-1))) wr):=Lib.hid ⟨-1,rfl,⟨fun h=>by omega,fun h=>by
     obtain ⟨j,hj⟩:=List.mem_iff_getElem?.1 h;exact absurd rfl (HX.out.2 j x (by have:=(List.getElem?_eq_some_iff.1 hj).1;omega) hj)⟩,HBW.out⟩
    go_wp2_with fail;go_ret;exact HP.out
  have hlti: (i:Int) < L.length:=by omega
  obtain ⟨y,hy⟩:∃y,L[i]? =some y:=⟨_,List.getElem?_eq_getElem hlt⟩;have hrow:=owns_below HR.out HX.out.1;obtain ⟨g,cap,e⟩:=Joins.ownsRow_form hrow (by omega);injection e with e1 _ e3
  subst e1 e3;obtain ⟨z0,z1,z2,z3,z4,z5⟩:=way_cells hrow hy;have HBX2:=(HX.out.1.block _ (lt_of_block HBX.out)).trans HBX.out;have q:∀ (i:Nat) (v:Value),(#[.int .i64 x.esc,.int .i64 x.way,.int .i64 x.who,.int .i64 x.wesc,.int .i64 x.wway,.int .i64 x.err]:Array Value)[i]? =some v→wr.cell? ⟨w.heap.size,i,none⟩=some v:=fun i v hv=>(cell_of_row _ _ _ _ _ _ HBX2).trans hv
  have q0:=q 0 _ rfl;have q1:=q 1 _ rfl;have q2:=q 2 _ rfl;have q3:=q 3 _ rfl;have q4:=q 4 _ rfl;have q5:=q 5 _ rfl;have HY:=Lib.hid hy;have hD:=way_cmp x y;clear hy q hrow HBX2;rcases hD with ⟨hxy,hD⟩ | ⟨hxy,hD⟩ | ⟨hxy,hD⟩ | ⟨hxy,hD⟩ | ⟨hxy,hD⟩ | ⟨hxy,hD⟩ | ⟨hxy,hD⟩
  · have HP:Hid (∀n,IdxP x L w (.returned (.int .i64 i)) (wr.drewN n)):=Lib.hid fun n=>⟨i,rfl,⟨fun _=>by rw [hxy];exact List.mem_of_getElem? HY.out,fun _=>hi0⟩,bdrew HBW.out n⟩
    obtain ⟨d0,d1,d2,d3,d4,d5⟩:=hD;clear hxy HX;go_wp2_with fail;go_quiet (fail);go_wp2_with fail;go_ret;exact HP.out nq
  all_goals (
   have HN:Hid (∀n,Below W1.heap.size W1 (wr.drewN n)∧∀j y,j < i+1→L[j]? =some y→y≠x):=Lib.hid fun n=>⟨bdrew HX.out.1 n,fun j y' hj hy'=>by
    by_cases e:j=i
    · subst e;rw [HY.out] at hy';injection hy' with hy'
      rw [←hy'];exact fun e=>hxy e.symm
    · exact HX.out.2 j y' (by omega) hy'⟩
   try obtain ⟨d0,hD⟩:=hD
   try obtain ⟨d1,hD⟩:=hD
   try obtain ⟨d2,hD⟩:=hD
   try obtain ⟨d3,hD⟩:=hD
   try obtain ⟨d4,hD⟩:=hD
   clear hxy HX;go_wp2_with fail;go_quiet (fail);go_wp2_with fail;have HN1:=Lib.hid (HN.out nq);generalize wr.drewN nq=W2 at HN1 ⊢;go_roundw;case rel=>exact ⟨i+1,by go_num,by omega,HN1⟩
   case measure=>simp [intOf];omega)
set_option maxRecDepth 100000 in
set_option maxHeartbeats 4000000 in
theorem containsW {B c:Nat} {o:Option Addr} {L:List WayD} (x:WayD) (w:World) (hr:w.ownsRow B 39 6 (.slice o L.length c) L.length (waysV L)) (hL:L.length≤9223372036854775807):
 Calls Tryz.prog 23 #[.slice o L.length c,.agg #[.int .i64 x.esc,.int .i64 x.way,.int .i64 x.who,.int .i64 x.wesc,.int .i64 x.wway,.int .i64 x.err]] w (ConP x L w):=by
 have hbox:=heap_alloc_new w (.cells #[.int .i64 x.esc,.int .i64 x.way,.int .i64 x.who,.int .i64 x.wesc,.int .i64 x.wway,.int .i64 x.err] 39);have hb:=ball (w:=w) (.cells #[.int .i64 x.esc,.int .i64 x.way,.int .i64 x.who,.int .i64 x.wesc,.int .i64 x.wway,.int .i64 x.err] 39);have HI:=Lib.hid (indexW x _ (owns_below hr hb) hL);have HB:=Lib.hid hb;have q:∀ (i:Nat) (v:Value),(#[.int .i64 x.esc,.int .i64 x.way,.int .i64 x.who,.int .i64 x.wesc,.int .i64 x.wway,.int .i64 x.err]:Array Value)[i]? =some v→ (w.alloc (.cells #[.int .i64 x.esc,.int .i64 x.way,.int .i64 x.who,.int .i64 x.wesc,.int .i64 x.wway,.int .i64 x.err] 39)).cell? ⟨w.heap.size,i,none⟩=some v:=fun i v hv=>(cell_of_row _ _ _ _ _ _ hbox).trans hv
 have q0:=q 0 _ rfl;have q1:=q 1 _ rfl;have q2:=q 2 _ rfl;have q3:=q 3 _ rfl;have q4:=q 4 _ rfl;have q5:=q 5 _ rfl;clear hr hb hbox q;go_enter Tryz.func23,Tryz.ntmps23;go_upto_region 1 with fail
 generalize w.alloc (.cells #[.int .i64 x.esc,.int .i64 x.way,.int .i64 x.who,.int .i64 x.wesc,.int .i64 x.wway,.int .i64 x.err] 39)=W1 at HI HB q0 q1 q2 q3 q4 q5 ⊢;go_wp2_with fail;refine HI.out.mono ?_;rintro e W2 ⟨i,rfl,hi,hb2⟩;have HB2:Hid (Below w.heap.size w W2):=Lib.hid (HB.out.trans (hb2.mono HB.out.size));have HII:=Lib.hid hi;clear hb2 hi HI;by_cases h0:0≤i
 · have hd:decide (0≤i)=true:=decide_eq_true h0;have HP:Hid (ConP x L w (.returned (.bool true)) W2):=Lib.hid ⟨true,rfl,⟨fun _=>HII.out.1 h0,fun _=>rfl⟩,HB2.out⟩;clear q0 q1 q2 q3 q4 q5;go_wp2_with fail;go_ret;exact HP.out
 · have hd:decide (0≤i)=false:=decide_eq_false h0;have HP:Hid (ConP x L w (.returned (.bool false)) W2):=Lib.hid ⟨false,rfl,⟨(fun h=>by cases h),fun h=>absurd (HII.out.2 h) h0⟩,HB2.out⟩;clear q0 q1 q2 q3 q4 q5;go_wp2_with fail;go_ret;exact HP.out
end Go.Proofs.YthfldokfnjpkmaaGreatDoor
