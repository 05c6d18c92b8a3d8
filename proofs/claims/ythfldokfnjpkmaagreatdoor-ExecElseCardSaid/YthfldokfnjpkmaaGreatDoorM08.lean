/- The fourth part: all proctypes' tables. -/
import Derived.Test.YthfldokfnjpkmaaGreatDoorM07
import Derived.Deep.DeepCutAuto
import Derived.Deep.CutBlock
set_option linter.unusedVariables false
set_option linter.unusedSimpArgs false
namespace Go.Proofs.YthfldokfnjpkmaaGreatDoor
open Go.ChangeShapes Go.WideShapes Go.ChangeAt Go.RowKit
set_option maxHeartbeats 4000000 in
set_option maxRecDepth 100000 in
theorem procsC {B k:Nat} {h:MH} {m:ModelD} (w:World) (hk:Ck B w k h m):
 Calls Tryz.prog 147 #[.pointer (some ⟨k,0,none⟩)] w fun e w'=>e= .returned (.tuple #[.int .i64 (procsL m).1,.bool (procsL m).2])∧Below w.heap.size w w':=by
 obtain ⟨go,gc,io,ic,so,sc,co,cc,po,pc,eo,ec⟩:=h;have HK:=Lib.hid hk;have c4:w.cell? ⟨k,4,none⟩=some (.slice po m.procs.length pc):=hk.c4;have l1:=hk.md.procs.1;have hB:B≤w.heap.size:=by have:=hk.le;have:=hk.lt;omega
 have HV:Hid (procsL m=idxB (bad (procB m) m.procs.zipIdx)):=Lib.hid rfl;clear hk;go_enter Tryz.func147,Tryz.ntmps147;go_wp2_with fail;clear c4
 go_loopw [12] (fun iv W=>∃i:Nat,iv= .int .i64 i∧i≤m.procs.length∧Hid (∀j (hj:j < m.procs.zipIdx.length),j < i→procB m m.procs.zipIdx[j]=true)∧Hid (Below w.heap.size w W)) (fun iv _=>m.procs.length - (intOf iv).toNat)
 case atStart=>exact ⟨0,rfl,by omega,Lib.hid fun j _ h=>by omega,Lib.hid (Below.refl _ _)⟩
 case round=>
  obtain ⟨i,rfl,hi,HJ,HB⟩:=hrel;have hi0: (0:Int)≤i:=by omega
  by_cases hlt:i < m.procs.length
  · have hlti: (i:Int) < m.procs.length:=by omega
    obtain ⟨p,hp⟩:∃p,m.procs[i]? =some p:=⟨_,List.getElem?_eq_getElem hlt⟩;obtain ⟨hz,hzip⟩:=zipIdx_get hlt;have hzl:m.procs.zipIdx[i]= (p,i):=by rw [hzip];obtain ⟨_,h⟩:=List.getElem?_eq_some_iff.1 hp;rw [h]
    have HBAD:Hid (procB m (p,i)=false→procsL m= ((i:Int),false)):=Lib.hid fun h=>by
     rw [HV.out,bad_some hz (by rw [hzl];exact h) (fun j hj hjk=>HJ.out j hj hjk)];rfl
    have HGO:Hid (procB m (p,i)=true→∀j (hj:j < m.procs.zipIdx.length),j < i+1→procB m m.procs.zipIdx[j]=true):=Lib.hid fun h j hj hjk=>by
     by_cases e:j=i
     · subst e;rw [hzl];exact h
     · exact HJ.out j hj (by omega)
    have HKr:=Lib.hid (HK.out.below HB.out);obtain ⟨g,off,hog,hgB,hpa⟩:=HKr.out.md.procs.get hp;simp only at hog;subst hog;obtain ⟨fo,fc,io',ic',lo,lc,⟨d0,d1,d2,d3,d4,d5,d6,d7,d8,d9⟩,hf,hii,hl⟩:=hpa.pc;have HR:=Lib.hid (And.intro hf (And.intro hii hl));have HX:=Lib.hid (Bx.new wr #[.string p.name,.int .i64 p.params,.slice fo p.frame.length fc,.slice io' p.init.length ic',.slice lo p.locs.length lc,.int .i64 p.start,.int .i64 p.final,.int .i64 p.active,.int .i64 p.prio,.int .i64 p.provided] 73);have hBr:B≤wr.heap.size:=by have:=HB.out.size;omega
    clear hpa hp hz hzip hzl hf hii hl;go_wp2_with fail;clear d0 d1 d2 d3 d4 d5 d6 d7 d8 d9;generalize wr.alloc (Obj.cells #[.string p.name,.int .i64 p.params,.slice fo p.frame.length fc,.slice io' p.init.length ic',.slice lo p.locs.length lc,.int .i64 p.start,.int .i64 p.final,.int .i64 p.active,.int .i64 p.prio,.int .i64 p.provided] 73)=W1 at HX ⊢;have HRW:Hid (∀W',Below wr.heap.size wr W'→Row B fo 2 (tyAt W') p.frame∧Row B io' 1 (intAt W') p.init∧Row B lo 7 (locAt B W') p.locs):=Lib.hid fun W' hb=>
     ⟨HR.out.1.mono fun _ _ _ hg=>tyAt.below (hb.mono hBr) hg,HR.out.2.1.mono fun _ _ _ hg=>intAt.below (hb.mono hBr) hg,HR.out.2.2.mono fun _ _ _ hg=>locAt.below (hb.mono hBr) hg⟩
    refine (frameC fo io' lo fc ic' lc p W1 (HKr.out.bx HX.out) (HRW.out _ HX.out.bel).1 (HRW.out _ HX.out.bel).2.1).mono ?_;rintro e W2 ⟨rfl,hb2⟩;have HX2:=Lib.hid (HX.out.below hb2);clear hb2;obtain ⟨u1,hu1⟩:∃u,frameB m p=u:=⟨_,rfl⟩;rw [hu1];have HU1:=Lib.hid hu1;clear hu1;cases u1
    · have HZ:=Lib.hid (HBAD.out (by unfold procB;rw [HU1.out];rfl));go_wp2_with fail;go_ret2;exact ⟨retIB (by rw [HZ.out]) (by rw [HZ.out]),HB.out.trans (HX2.out.bel.mono HB.out.size)⟩
    · have x0:W2.cell? ⟨wr.heap.size,0,none⟩=some (.string p.name):=HX2.out.cell rfl;have x1:W2.cell? ⟨wr.heap.size,1,none⟩=some (.int .i64 p.params):=HX2.out.cell rfl;have x2:W2.cell? ⟨wr.heap.size,2,none⟩=some (.slice fo p.frame.length fc):=HX2.out.cell rfl;have x3:W2.cell? ⟨wr.heap.size,3,none⟩=some (.slice io' p.init.length ic'):=HX2.out.cell rfl;have x4:W2.cell? ⟨wr.heap.size,4,none⟩=some (.slice lo p.locs.length lc):=HX2.out.cell rfl;have x5:W2.cell? ⟨wr.heap.size,5,none⟩=some (.int .i64 p.start):=HX2.out.cell rfl;have x6:W2.cell? ⟨wr.heap.size,6,none⟩=some (.int .i64 p.final):=HX2.out.cell rfl;have x7:W2.cell? ⟨wr.heap.size,7,none⟩=some (.int .i64 p.active):=HX2.out.cell rfl;have x8:W2.cell? ⟨wr.heap.size,8,none⟩=some (.int .i64 p.prio):=HX2.out.cell rfl;have x9:W2.cell? ⟨wr.heap.size,9,none⟩=some (.int .i64 p.provided):=HX2.out.cell rfl;go_wp2_with fail;clear x0 x1 x2 x3 x4 x5 x6 x7 x8 x9;refine (placesC _ fo io' lo fc ic' lc p W2 (by have:=HX2.out.bel.size;omega) (HRW.out _ HX2.out.bel).2.2).mono ?_;rintro e W3 ⟨rfl,hb3⟩;have HX3:=Lib.hid (HX2.out.below hb3);clear hb3;obtain ⟨u2,hu2⟩:∃u,placesB p=u:=⟨_,rfl⟩;rw [hu2];have HU2:=Lib.hid hu2;clear hu2;cases u2
      · have HZ:=Lib.hid (HBAD.out (by unfold procB;rw [HU1.out,HU2.out];rfl));go_wp2_with fail;go_ret2;exact ⟨retIB (by rw [HZ.out]) (by rw [HZ.out]),HB.out.trans (HX3.out.bel.mono HB.out.size)⟩
      · have c5:W3.cell? ⟨k,5,none⟩=some (.int .i64 m.claim):=(HKr.out.bx HX3.out).c5;have HBE:=Lib.hid (HB.out.trans (HX3.out.bel.mono HB.out.size));by_cases hc: (i:Int)=m.claim
        · have hcb: ((i:Int) == m.claim)=true:=by rw [beq_iff_eq];exact hc
          have HC:=Lib.hid hc;have x0:W3.cell? ⟨wr.heap.size,0,none⟩=some (.string p.name):=HX3.out.cell rfl;have x1:W3.cell? ⟨wr.heap.size,1,none⟩=some (.int .i64 p.params):=HX3.out.cell rfl;have x2:W3.cell? ⟨wr.heap.size,2,none⟩=some (.slice fo p.frame.length fc):=HX3.out.cell rfl;have x3:W3.cell? ⟨wr.heap.size,3,none⟩=some (.slice io' p.init.length ic'):=HX3.out.cell rfl;have x4:W3.cell? ⟨wr.heap.size,4,none⟩=some (.slice lo p.locs.length lc):=HX3.out.cell rfl;have x5:W3.cell? ⟨wr.heap.size,5,none⟩=some (.int .i64 p.start):=HX3.out.cell rfl;have x6:W3.cell? ⟨wr.heap.size,6,none⟩=some (.int .i64 p.final):=HX3.out.cell rfl;have x7:W3.cell? ⟨wr.heap.size,7,none⟩=some (.int .i64 p.active):=HX3.out.cell rfl;have x8:W3.cell? ⟨wr.heap.size,8,none⟩=some (.int .i64 p.prio):=HX3.out.cell rfl;have x9:W3.cell? ⟨wr.heap.size,9,none⟩=some (.int .i64 p.provided):=HX3.out.cell rfl;clear hc;go_wp2_with fail;clear x0 x1 x2 x3 x4 x5 x6 x7 x8 x9 c5;refine (looksOnC fo io' lo fc ic' lc p W3 (by have:=HX3.out.bel.size;omega) (HRW.out _ HX3.out.bel).2.2).mono ?_;rintro e W4 ⟨rfl,hb4⟩;have HBE4:=Lib.hid (HBE.out.trans (hb4.mono HBE.out.size));clear hb4;obtain ⟨u3,hu3⟩:∃u,looksOnB p=u:=⟨_,rfl⟩;rw [hu3];have HU3:=Lib.hid hu3;clear hu3;cases u3
          · have HZ:=Lib.hid (HBAD.out (by unfold procB;rw [HU1.out,HU2.out,HU3.out,decide_eq_true HC.out];rfl));go_wp2_with fail;go_ret2;exact ⟨retIB (by rw [HZ.out]) (by rw [HZ.out]),HBE4.out⟩
          · have HZ:=Lib.hid (HGO.out (by unfold procB;rw [HU1.out,HU2.out,HU3.out];simp));go_wp2_with fail;go_roundw;case rel=>exact ⟨i+1,by go_num,by omega,HZ,HBE4⟩
            case measure=>simp [intOf];omega
        · have hcb: ((i:Int) == m.claim)=false:=by rw [beq_eq_false_iff_ne];exact hc
          have HZ:=Lib.hid (HGO.out (by unfold procB;rw [HU1.out,HU2.out,decide_eq_false hc];simp));clear hc;go_wp2_with fail;go_roundw;case rel=>exact ⟨i+1,by go_num,by omega,HZ,HBE⟩
          case measure=>simp [intOf];omega
  · have hlti:¬ (i:Int) < m.procs.length:=by omega
    have HZ:Hid (procsL m= (0,true)):=Lib.hid (by rw [HV.out,bad_none fun j hj=>HJ.out j hj (by have h9:j < m.procs.zipIdx.length:=hj;rw [List.length_zipIdx] at h9;omega)];rfl);go_wp2_with fail;go_ret2;exact ⟨retIB (by rw [HZ.out]) (by rw [HZ.out]),HB.out⟩
end Go.Proofs.YthfldokfnjpkmaaGreatDoor
namespace Go.Proofs.YthfldokfnjpkmaaGreatDoor
open Go.ChangeShapes Go.WideShapes Go.ChangeAt Go.RowKit
theorem claimsC (k:Int) (w:World):Calls Tryz.prog 197 #[.int .i64 k] w fun e w'=>e= .returned (.bool (claimsB k))∧w=w':=by
 have key:∀a b c d:Bool,(k == 1)=a→ (k == 3)=b→ (k == 7)=c→ (k == 8)=d→claimsB k= (a || b || c || d):=by
  intro a b c d h1 h2 h3 h4;subst h1 h2 h3 h4;unfold claimsB;rw [Bool.eq_iff_iff];simp;omega
 obtain ⟨a,ha⟩:∃a,(k == 1)=a:=⟨_,rfl⟩;obtain ⟨b,hb⟩:∃a,(k == 3)=a:=⟨_,rfl⟩;obtain ⟨c,hc⟩:∃a,(k == 7)=a:=⟨_,rfl⟩;obtain ⟨d,hd⟩:∃a,(k == 8)=a:=⟨_,rfl⟩;have HV:=Lib.hid (key a b c d ha hb hc hd);clear key;go_enter Tryz.func197,Tryz.ntmps197;cases a <;> cases b <;> cases c <;> cases d
 all_goals (
  go_wp2_with fail;go_ret;exact ⟨retB HV.out.symm,rfl⟩)
theorem settableC {B p:Nat} {h:MH} {m:ModelD} (n:Int) (w:World) (hk:Ck B w p h m):Calls Tryz.prog 209 #[.pointer (some ⟨p,0,none⟩),.int .i64 n] w fun e w'=>e= .returned (.bool (settableB m n))∧w=w':=by
 have HK:=Lib.hid hk;have c6:=hk.c6;clear hk;cases hx:isVarB m n
 · have hv:settableB m n=false:=by unfold settableB;rw [hx];rfl
   have HV:=Lib.hid hv;have HX:=Lib.hid hx;clear hv hx;go_enter Tryz.func209,Tryz.ntmps209;go_wp2_with fail;refine (isVarC n w HK.out).mono ?_;rintro e w' ⟨rfl,rfl⟩;rw [HX.out];go_wp2_with fail;go_ret;exact ⟨retB HV.out.symm,rfl⟩
 · have hie:isExprB m n=true:=by unfold isVarB at hx;rw [Bool.and_eq_true] at hx;exact hx.1
   have hb:0≤n∧n < m.exprs.length:=by unfold isExprB at hie;simpa using hie
   obtain ⟨k,rfl⟩:∃k:Nat,n=k:=⟨n.toNat,by omega⟩;have hk:k < m.exprs.length:=by omega
   obtain ⟨x,hget⟩:∃x,m.exprs[k]? =some x:=⟨_,List.getElem?_eq_getElem hk⟩;obtain ⟨g,off,ho,hg,he⟩:=HK.out.md.exprs.get hget;have hsc:scopeAt m (k:Int)=x.v.scope:=by unfold scopeAt;rw [Int.toNat_natCast,hget];rfl
   have hv:settableB m (k:Int)=decide (x.v.scope≠2):=by unfold settableB;rw [hx,hsc];rfl
   have HV:=Lib.hid hv;have HX:=Lib.hid hx;have c0:=he.v.c0;rw [ho] at c6;have h1: (k:Int) < m.exprs.length:=by omega
   obtain ⟨sc,hs⟩:∃s,x.v.scope=s:=⟨_,rfl⟩;rw [hs] at c0 HV;clear hv hx hb he ho hie hsc hs hget;go_enter Tryz.func209,Tryz.ntmps209;go_wp2_with fail;refine (isVarC k w HK.out).mono ?_;rintro e w' ⟨rfl,rfl⟩;rw [HX.out];by_cases h2:sc=2
   · have HZ:Hid (settableB m (k:Int)=false):=Lib.hid (by rw [HV.out,h2];rfl);have hb2: (sc != 2)=false:=by simp [h2]
     clear h2;go_wp2_with fail;go_ret;exact ⟨retB HZ.out.symm,rfl⟩
   · have HZ:Hid (settableB m (k:Int)=true):=Lib.hid (by rw [HV.out];exact decide_eq_true h2);have hb2: (sc != 2)=true:=by rw [bne_iff_ne];exact h2
     clear h2;go_wp2_with fail;go_ret;exact ⟨retB HZ.out.symm,rfl⟩
structure SC (w:World) (g a:Nat) (s:StmtD) (o1:Option Addr) (p1:Nat) (o2:Option Addr) (p2:Nat):Prop where
 c0:w.cell? ⟨g,a,none⟩=some (.int .i64 s.kind)
 c1:w.cell? ⟨g,a+1,none⟩=some (.int .i64 s.a)
 c2:w.cell? ⟨g,a+2,none⟩=some (.int .i64 s.b)
 c3:w.cell? ⟨g,a+3,none⟩=some (.int .i64 s.n)
 c4:w.cell? ⟨g,a+4,none⟩=some (.slice o1 s.args.length p1)
 c5:w.cell? ⟨g,a+5,none⟩=some (.slice o2 s.mat.length p2)
 c6:w.cell? ⟨g,a+6,none⟩=some (.string s.text)
theorem stmtAt.sc {B g a:Nat} {w:World} {s:StmtD} (h:stmtAt B w g a s):∃o1 p1 o2 p2,SC w g a s o1 p1 o2 p2∧Row B o1 1 (intAt w) s.args∧Row B o2 1 (intAt w) s.mat:=by
 obtain ⟨o1,p1,a1,a2⟩:=h.args;obtain ⟨o2,p2,m1,m2⟩:=h.mat;exact ⟨o1,p1,o2,p2,⟨h.c0,h.c1,h.c2,h.c3,a1,m1,h.c6⟩,a2,m2⟩
set_option maxHeartbeats 2000000 in
set_option maxRecDepth 100000 in
theorem receivesC {B p g a:Nat} {h:MH} {m:ModelD} {s:StmtD} (w:World) (hk:Ck B w p h m) (hs:stmtAt B w g a s) (hg:g < B):
 Calls Tryz.prog 210 #[.pointer (some ⟨p,0,none⟩),.pointer (some ⟨g,a,none⟩)] w fun e w'=>e= .returned (.bool (receivesB m s))∧Below w.heap.size w w':=by
 have HK:=Lib.hid hk;obtain ⟨o1,p1,o2,p2,hsc,hr1,hr2⟩:=hs.sc;have HSC:=Lib.hid hsc;have HR:=Lib.hid (And.intro hr1 hr2);have c4:=hsc.c4;have c5:=hsc.c5;have l1:=hr1.1;have l2:=hr2.1;have hBw:B≤w.heap.size:=by have:=hk.le;have:=hk.lt;omega
 have HC:Hid (∀nn,Calls Tryz.prog 194 #[.pointer (some ⟨p,0,none⟩),.slice o1 s.args.length p1,.slice o2 s.mat.length p2] (w.drewN nn) fun e w'=>e= .returned (.bool (fieldsB m s.args s.mat))∧w'=w.drewN nn):=Lib.hid fun nn=>by
  have hbb:Below B w (w.drewN nn):=bdrew (Below.refl _ _) nn;exact (fieldsC s.args s.mat o1 o2 p1 p2 (w.drewN nn) (HK.out.below (bdrew (Below.refl _ _) nn)) (HR.out.1.mono fun _ _ _ hg=>intAt.below hbb hg) (HR.out.2.mono fun _ _ _ hg=>intAt.below hbb hg)).mono fun _ _ ⟨h1,h2⟩=>⟨h1,h2.symm⟩
 have HKN:Hid (∀nn,Ck B (w.drewN nn) p h m):=Lib.hid fun nn=>HK.out.below (bdrew (Below.refl _ _) nn)
 have HBN:Hid (∀nn,Below w.heap.size w (w.drewN nn)):=Lib.hid fun nn=>bdrew (Below.refl _ _) nn
 obtain ⟨fb,hfb⟩:∃b,fieldsB m s.args s.mat=b:=⟨_,rfl⟩;rw [hfb] at HC;have HFB:=Lib.hid hfb;clear hsc hr1 hr2 hs hk hfb;cases fb
 · have HV:Hid (receivesB m s=false):=Lib.hid (by unfold receivesB;rw [HFB.out];rfl);go_enter Tryz.func210,Tryz.ntmps210;go_wp2_with fail;go_quiet ((go_at_call 194;exact Calls.quiet_of_same (HC.out _)));go_wp2_with fail;go_ret;exact ⟨retB HV.out.symm,HBN.out _⟩
 · have HV:Hid (receivesB m s= (s.args.zip s.mat).all (recvB m)):=Lib.hid (by unfold receivesB;rw [HFB.out];rfl);have HLE:Hid (s.mat.length=s.args.length):=Lib.hid (by have h0:=HFB.out;unfold fieldsB at h0;simp at h0;omega);have m1: (s.mat.length:Int)≤s.args.length:=by have:=HLE.out;omega
   have m2: (s.args.length:Int)≤s.mat.length:=by have:=HLE.out;omega
   go_enter Tryz.func210,Tryz.ntmps210;go_wp2_with fail;go_quiet ((go_at_call 194;exact Calls.quiet_of_same (HC.out _)));have HW:=Lib.hid (And.intro (HKN.out nq) (HBN.out nq));have d4: (w.drewN nq).cell? ⟨g,a+4,none⟩=some (.slice o1 s.args.length p1):=c4;have d5: (w.drewN nq).cell? ⟨g,a+5,none⟩=some (.slice o2 s.mat.length p2):=c5;have HR2:Hid (Row B o1 1 (intAt (w.drewN nq)) s.args∧Row B o2 1 (intAt (w.drewN nq)) s.mat):=Lib.hid ⟨HR.out.1.mono fun _ _ _ hg=>intAt.below (bdrew (Below.refl _ _) nq) hg,HR.out.2.mono fun _ _ _ hg=>intAt.below (bdrew (Below.refl _ _) nq) hg⟩;generalize w.drewN nq=W at HW d4 d5 HR2 ⊢;clear c4 c5 HC HKN HBN;go_wp2_with fail
   go_loop [23] (fun iv=>∃k:Nat,iv= .int .i64 k∧k≤s.args.length∧Hid (∀j (hj:j < (s.args.zip s.mat).length),j < k→recvB m (s.args.zip s.mat)[j]=true)) (fun iv=>s.args.length - (intOf iv).toNat)
   case atStart=>exact ⟨0,rfl,by omega,Lib.hid fun j _ h=>by omega⟩
   case round=>
    obtain ⟨k,rfl,hk,HD⟩:=hrel;have hk0: (0:Int)≤k:=by omega
    by_cases hlt:k < s.args.length
    · have hlti: (k:Int) < s.args.length:=by omega
      have hltm:k < s.mat.length:=by have:=HLE.out;omega
      have hltmi: (k:Int) < s.mat.length:=by omega
      obtain ⟨ga,offa,hoa,hga,e0⟩:=HR2.out.1.cell hlt;obtain ⟨gm,offm,hom,hgm,e2⟩:=HR2.out.2.cell hltm;subst hoa hom;obtain ⟨hz,hzip⟩:=zip_get hlt hltm;obtain ⟨x,hx⟩:∃x,s.args[k]=x:=⟨_,rfl⟩;obtain ⟨q,hq⟩:∃q,s.mat[k]=q:=⟨_,rfl⟩;rw [hx,hq] at hzip;have f0:W.cell? ⟨ga,offa+k,none⟩=some (.int .i64 x):=by have:=e0;unfold intAt at this;rw [Nat.mul_one,hx] at this;exact this
      have f2:W.cell? ⟨gm,offm+k,none⟩=some (.int .i64 q):=by have:=e2;unfold intAt at this;rw [Nat.mul_one,hq] at this;exact this
      have HBAD:Hid (recvB m (x,q)=false→receivesB m s=false):=Lib.hid fun h=>by rw [HV.out,all_bad hz (by rw [hzip];exact h)]
      have HGO:Hid (recvB m (x,q)=true→∀j (hj:j < (s.args.zip s.mat).length),j < k+1→recvB m (s.args.zip s.mat)[j]=true):=Lib.hid fun h j hj hjk=>by
       by_cases e:j=k
       · subst e;rw [hzip];exact h
       · exact HD.out j hj (by omega)
      clear e0 e2 hx hq hz hzip;by_cases hq0:q=0
      · have hqb: (q == 0)=true:=by simp [hq0]
        have HQ:=Lib.hid hq0;clear hq0;go_wp2_with fail;refine (settableC x W HW.out.1).mono ?_;rintro e w' ⟨rfl,rfl⟩;obtain ⟨u,hu⟩:∃u,settableB m x=u:=⟨_,rfl⟩;rw [hu];have HU:=Lib.hid hu;clear hu;cases u
        · have HZ:=Lib.hid (HBAD.out (by unfold recvB;rw [HU.out];simp [HQ.out]));go_wp2_with fail;go_ret;exact ⟨retB HZ.out.symm,HW.out.2⟩
        · have HZ:=Lib.hid (HGO.out (by unfold recvB;rw [HU.out];simp));go_wp2_with fail;go_round;case rel=>exact ⟨k+1,by go_num,by omega,HZ⟩
          case measure=>simp [intOf];omega
      · have hqb: (q == 0)=false:=by simp [hq0]
        have HZ:=Lib.hid (HGO.out (by unfold recvB;simp [hq0]));clear hq0;go_wp2_with fail;go_round;case rel=>exact ⟨k+1,by go_num,by omega,HZ⟩
        case measure=>simp [intOf];omega
    · have hlti:¬ (k:Int) < s.args.length:=by omega
      have HZ:Hid (receivesB m s=true):=Lib.hid (by rw [HV.out];exact all_of fun j hj=>HD.out j hj (by rw [List.length_zip] at hj;omega));go_wp2_with fail;go_ret;exact ⟨retB HZ.out.symm,HW.out.2⟩
end Go.Proofs.YthfldokfnjpkmaaGreatDoor
namespace Go.Proofs.YthfldokfnjpkmaaGreatDoor
open Go.ChangeShapes Go.WideShapes Go.ChangeAt Go.RowKit
def AskIs (m:ModelD) (k:Int) (v5 v6 v7 v8 v9 v10 v11:Value) (w wx:World):Prop:=
 ∃q,askOf m k=some q∧v5= .bool q.hasA∧v6= .bool q.hasB∧v7= .int .i64 q.mostN∧v8= .int .i64 q.most∧v9= .int .i64 q.least∧v10= .bool q.matches_∧v11= .bool q.text∧w=wx
theorem size0 {b:ByteArray} (h:b.size=0):b= { data:=#[] }:=by
 cases b with | mk d=>congr 1;exact Array.eq_empty_of_size_eq_zero h
theorem size1 {b:ByteArray} (h:0 < b.size):¬b.toList= []:=by
 rw [ByteArray.toList_eq];intro e;have :b.data.size=0:=by rw [←Array.length_toList,e];rfl
 have h2:b.data.size=b.size:=rfl;omega
set_option maxHeartbeats 8000000 in
set_option maxRecDepth 100000 in
theorem stmtC {B p g a:Nat} {h:MH} {m:ModelD} {s:StmtD} (w:World) (hk:Ck B w p h m) (hs:stmtAt B w g a s) (hg:g < B):
 Calls Tryz.prog 196 #[.pointer (some ⟨p,0,none⟩),.pointer (some ⟨g,a,none⟩)] w fun e w'=>e= .returned (.bool (stmtB m s))∧Below w.heap.size w w':=by
 have HK:=Lib.hid hk;have HS:=Lib.hid hs;obtain ⟨o1,p1,o2,p2,hsc,hr1,hr2⟩:=hs.sc;have HSC:=Lib.hid hsc;have HR:=Lib.hid (And.intro hr1 hr2);have c0:=hsc.c0;have cs:=hk.c2;have l1:=hr1.1;have l2:=hr2.1;have l3:=hk.md.shapes.1;clear hsc hr1 hr2 hs hk;by_cases hnone:askOf m s.kind=none
 · have HV:Hid (stmtB m s=false):=Lib.hid (by unfold stmtB;rw [hnone]);have hk: (¬s.kind=1)∧ (¬s.kind=2)∧ (¬s.kind=3)∧ (¬s.kind=4)∧ (¬s.kind=5)∧ (¬s.kind=6)∧ (¬s.kind=7)∧ (¬s.kind=8)∧ (¬s.kind=9):=by
    unfold askOf at hnone;split at hnone
    · cases hnone
    · split at hnone
      · cases hnone
      · split at hnone
        · cases hnone
        · split at hnone
          · cases hnone
          · split at hnone
            · cases hnone
            · split at hnone
              · cases hnone
              · split at hnone
                · cases hnone
                · omega
   have b1: (s.kind == 1)=false:=by simp [hk]
   have b2: (s.kind == 2)=false:=by simp [hk]
   have b3: (s.kind == 3)=false:=by simp [hk]
   have b4: (s.kind == 4)=false:=by simp [hk]
   have b5: (s.kind == 5)=false:=by simp [hk]
   have b6: (s.kind == 6)=false:=by simp [hk]
   have b7: (s.kind == 7)=false:=by simp [hk]
   have b8: (s.kind == 8)=false:=by simp [hk]
   have b9: (s.kind == 9)=false:=by simp [hk]
   clear hk hnone;go_enter Tryz.func196,Tryz.ntmps196;go_wp2_with fail;go_ret;exact ⟨retB HV.out.symm,Below.refl _ _⟩
 · have HNN:=Lib.hid hnone;clear hnone;go_enter Tryz.func196,Tryz.ntmps196;go_upto_block 0 with fail
   go_cut [5,6,7,8,9,10,11] from 18 to 40 (fun v5 v6 v7 v8 v9 v10 v11 wx=>Hid (AskIs m s.kind v5 v6 v7 v8 v9 v10 v11 w wx))
   case first=>
    have hkk:s.kind=1∨s.kind=2∨s.kind=3∨s.kind=4∨s.kind=5∨s.kind=6∨s.kind=7∨s.kind=8∨s.kind=9:=by
     have h0:=HNN.out;by_cases h1:s.kind=1∨s.kind=2∨s.kind=3∨s.kind=4∨s.kind=5∨s.kind=6∨s.kind=7∨s.kind=8∨s.kind=9
     · exact h1
     · exfalso
       apply h0;unfold askOf;rw [if_neg (by omega),if_neg (by omega),if_neg (by omega),if_neg (by omega),if_neg (by omega),if_neg (by omega),if_neg (by omega)]
    have HKK:Hid (∀k,s.kind=k→∀v5 v6 v7 v8 v9 v10 v11 wx,AskIs m k v5 v6 v7 v8 v9 v10 v11 w wx→Hid (AskIs m s.kind v5 v6 v7 v8 v9 v10 v11 w wx)):=Lib.hid fun k e v5 v6 v7 v8 v9 v10 v11 wx h=>Lib.hid (e ▸ h)
    generalize s.kind=kd at*;rcases hkk with rfl | rfl | rfl | rfl | rfl | rfl | rfl | rfl | rfl
    all_goals (
     go_wp2_with fail;go_meet;case rel=>exact Lib.hid ⟨_,rfl,rfl,rfl,rfl,rfl,rfl,rfl,rfl,rfl⟩)
   case rest=>
    obtain ⟨⟨hA,hB,mN,le,mo,mt,tx⟩,hq,rfl,rfl,rfl,rfl,rfl,rfl,rfl,rfl⟩:=hcut.out;dsimp only;have HQ:=Lib.hid hq;have HV:Hid (stmtB m s= (askAB m s ⟨hA,hB,mN,le,mo,mt,tx⟩ && askN s ⟨hA,hB,mN,le,mo,mt,tx⟩ && s.args.all (isExprB m) && (!(decide (s.kind=2∨s.kind=9)) || settableB m s.a) && (!mt || receivesB m s))):=Lib.hid (by unfold stmtB;rw [hq]);clear hq hcut HNN c0 cs;have d1:=HSC.out.c1;have d2:=HSC.out.c2;go_upto_region 20 with fail
    go_cut [80] from 41 to 80 (fun v wx=>v= .bool (!askAB m s ⟨hA,hB,mN,le,mo,mt,tx⟩)∧w=wx)
    case first=>
     obtain ⟨bA,hbA⟩:∃b,(s.a != -1)=b:=⟨_,rfl⟩;obtain ⟨bB,hbB⟩:∃b,(s.b != -1)=b:=⟨_,rfl⟩;obtain ⟨eA,heA⟩:∃b,isExprB m s.a=b:=⟨_,rfl⟩;obtain ⟨eB,heB⟩:∃b,isExprB m s.b=b:=⟨_,rfl⟩;have HAB:Hid ((!askAB m s ⟨hA,hB,mN,le,mo,mt,tx⟩)= ((hA != bA) || (hA && !eA) || (hB != bB) || (hB && !eB))):=Lib.hid (by
      unfold askAB;have q1:decide (s.a≠ -1)=bA:=by rw [←hbA,Bool.eq_iff_iff];simp
      have q2:decide (s.b≠ -1)=bB:=by rw [←hbB,Bool.eq_iff_iff];simp
      simp only [q1,q2,heA,heB];cases hA <;> cases bA <;> cases hB <;> cases bB <;> cases eA <;> cases eB <;> rfl)
     have HEA:=Lib.hid heA;have HEB:=Lib.hid heB;clear heA heB;cases hA <;> cases bA <;> cases hB <;> cases bB
     all_goals (
      go_wp2_with (go_at_call 207;(with_reducible refine (isExprC _ _ HK.out).mono ?_);rintro e w' ⟨rfl,rfl⟩;(first | (rw [HEA.out];cases eA) | (rw [HEB.out];cases eB)))
      all_goals (
       go_meet;case rel=>exact ⟨congrArg Value.bool HAB.out.symm,rfl⟩))
    case rest=>
     obtain ⟨rfl,rfl⟩:=hcut;obtain ⟨ab,hab⟩:∃b,(!askAB m s ⟨hA,hB,mN,le,mo,mt,tx⟩)=b:=⟨_,rfl⟩;have hab2:askAB m s ⟨hA,hB,mN,le,mo,mt,tx⟩= !ab:=by rw [←hab,Bool.not_not]
     rw [hab2] at HV;rw [hab];clear hab hab2 d1 d2;cases ab;rotate_left
     · have HZ:Hid (stmtB m s=false):=Lib.hid (by rw [HV.out];rfl);go_wp2_with fail;go_ret;exact ⟨retB HZ.out.symm,Below.refl _ _⟩
     · have d3:=HSC.out.c3;have d4:=HSC.out.c4;have d5:=HSC.out.c5;have d6:=HSC.out.c6;go_upto_region 22 with fail
       go_cut [146] from 81 to 146 (fun v wx=>v= .bool (!askN s ⟨hA,hB,mN,le,mo,mt,tx⟩)∧w=wx)
       case first=>
        have HN:Hid (∀b:Bool,((s.n < 0∨mN < s.n∨ (s.args.length:Int) < le∨ (0≤mo∧mo < (s.args.length:Int))∨ (mt=false∧0 < s.mat.length)∨ (tx=false∧s.text.size≠0)∨256 < s.text.size)↔b=true)→Value.bool b= .bool (!askN s ⟨hA,hB,mN,le,mo,mt,tx⟩)):=Lib.hid (by
         intro b hb;congr 1;unfold askN;rw [Bool.not_not,Bool.eq_iff_iff,←hb];simp only [decide_eq_true_eq])
        go_step
        simp only [List.append];by_cases n1:s.n < 0
        · go_wp2_with fail;go_meet;case rel=>exact ⟨HN.out _ (by constructor <;> intro _ <;> first | rfl | exact .inl n1),rfl⟩
        by_cases n2:mN < s.n
        · go_wp2_with fail;go_meet;case rel=>exact ⟨HN.out _ (by constructor <;> intro _ <;> first | rfl | exact .inr (.inl n2)),rfl⟩
        by_cases n3: (s.args.length:Int) < le
        · go_wp2_with fail;go_meet;case rel=>exact ⟨HN.out _ (by constructor <;> intro _ <;> first | rfl | exact .inr (.inr (.inl n3))),rfl⟩
        by_cases n4:0≤mo∧mo < (s.args.length:Int)
        · obtain ⟨n41,n42⟩:=n4;go_wp2_with fail;go_meet;case rel=>exact ⟨HN.out _ (by constructor <;> intro _ <;> first | rfl | exact .inr (.inr (.inr (.inl ⟨n41,n42⟩)))),rfl⟩
        have n44:0≤s.n:=by omega
        have n45:s.n≤mN:=by omega
        have n46:le≤ (s.args.length:Int):=by omega
        have HZ:Hid (∀b:Bool,(((mt=false∧0 < s.mat.length)∨ (tx=false∧s.text.size≠0)∨256 < s.text.size)↔b=true)→Value.bool b= .bool (!askN s ⟨hA,hB,mN,le,mo,mt,tx⟩)):=Lib.hid (fun b hb=>HN.out b (by
         constructor
         · rintro (h | h | h | h | h)
           · exact absurd h n1
           · exact absurd h n2
           · exact absurd h n3
           · exact absurd h n4
           · exact hb.1 h
         · intro h;exact .inr (.inr (.inr (.inr (hb.2 h))))))
        have n43: (mo < 0∧mt=false∧tx=true)∨ (0≤mo∧ (s.args.length:Int)≤mo∧tx=false):=by
         have hq:=HQ.out;unfold askOf at hq
         repeat' split at hq
         all_goals (first | (cases hq;done) | (cases hq;simp at n4 ⊢;done) | (cases hq;simp at n4 ⊢;omega))
        clear HN n4 n44 n45 n46;rcases n43 with ⟨n40,rfl,rfl⟩ | ⟨n47,n40,rfl⟩
        · have n47:¬ (0:Int)≤mo:=by omega
          clear n40;rcases Nat.eq_zero_or_pos s.mat.length with m0 | m0
          · have m1:¬ (0:Int) < s.mat.length:=by omega
            rcases Nat.lt_or_ge 256 s.text.size with t1 | t1
            · have t2: (256:Int) < s.text.size:=by omega
              go_wp2_with fail;go_meet;case rel=>exact ⟨HZ.out _ (by exact ⟨fun _=>rfl,fun _=> .inr (.inr t1)⟩),rfl⟩
            · have t2:¬ (256:Int) < s.text.size:=by omega
              go_wp2_with fail;go_meet;case rel=>exact ⟨HZ.out _ (by refine ⟨fun hh=> ?_,fun hh=>by cases hh⟩;rcases hh with ⟨h1,h2⟩ | ⟨h1,h2⟩ | h1 <;> first | (cases h1;done) | omega),rfl⟩
          · have m1: (0:Int) < s.mat.length:=by omega
            go_wp2_with fail;go_meet;case rel=>exact ⟨HZ.out _ (by exact ⟨fun _=>rfl,fun _=> .inl ⟨by first | rfl | trivial,m0⟩⟩),rfl⟩
        · have n48:¬mo < (s.args.length:Int):=by omega
          clear n40;rcases Nat.eq_zero_or_pos s.text.size with t0 | t0
          · have ht:=size0 t0;have HT:=Lib.hid t0;generalize s.text=txt at*;subst ht;cases mt
            · rcases Nat.eq_zero_or_pos s.mat.length with m0 | m0
              · have m1:¬ (0:Int) < s.mat.length:=by omega
                go_wp2_with fail;go_meet;case rel=>exact ⟨HZ.out _ (by refine ⟨fun hh=> ?_,fun hh=>by cases hh⟩;rcases hh with ⟨h1,h2⟩ | ⟨h1,h2⟩ | h1 <;> first | (cases h1;done) | omega),rfl⟩
              · have m1: (0:Int) < s.mat.length:=by omega
                go_wp2_with fail;go_meet;case rel=>exact ⟨HZ.out _ (by exact ⟨fun _=>rfl,fun _=> .inl ⟨by first | rfl | trivial,m0⟩⟩),rfl⟩
            · go_wp2_with fail;go_meet;case rel=>exact ⟨HZ.out _ (by refine ⟨fun hh=> ?_,fun hh=>by cases hh⟩;rcases hh with ⟨h1,h2⟩ | ⟨h1,h2⟩ | h1 <;> first | (cases h1;done) | omega),rfl⟩
          · have ht:=size1 t0;cases mt
            · rcases Nat.eq_zero_or_pos s.mat.length with m0 | m0
              · have m1:¬ (0:Int) < s.mat.length:=by omega
                go_wp2_with fail;go_meet;case rel=>exact ⟨HZ.out _ (by exact ⟨fun _=>rfl,fun _=> .inr (.inl ⟨by first | rfl | trivial,Nat.pos_iff_ne_zero.1 t0⟩)⟩),rfl⟩
              · have m1: (0:Int) < s.mat.length:=by omega
                go_wp2_with fail;go_meet;case rel=>exact ⟨HZ.out _ (by exact ⟨fun _=>rfl,fun _=> .inl ⟨by first | rfl | trivial,m0⟩⟩),rfl⟩
            · go_wp2_with fail;go_meet;case rel=>exact ⟨HZ.out _ (by exact ⟨fun _=>rfl,fun _=> .inr (.inl ⟨by first | rfl | trivial,Nat.pos_iff_ne_zero.1 t0⟩)⟩),rfl⟩
       case rest=>
        obtain ⟨rfl,rfl⟩:=hcut;obtain ⟨an,han⟩:∃b,(!askN s ⟨hA,hB,mN,le,mo,mt,tx⟩)=b:=⟨_,rfl⟩;have han2:askN s ⟨hA,hB,mN,le,mo,mt,tx⟩= !an:=by rw [←han,Bool.not_not]
        rw [han2] at HV;rw [han];clear han han2 d3 d5 d6;cases an;rotate_left
        · have HZ:Hid (stmtB m s=false):=Lib.hid (by rw [HV.out];rfl);go_wp2_with fail;go_ret;exact ⟨retB HZ.out.symm,Below.refl _ _⟩
        · have HW:Hid (stmtB m s= (s.args.all (isExprB m) && (!(decide (s.kind=2∨s.kind=9)) || settableB m s.a) && (!mt || receivesB m s))):=Lib.hid (by rw [HV.out];rfl);clear HV HQ;go_wp2_with fail
          go_loop [13,152] (fun xv iv=>∃k:Nat,iv= .int .i64 k∧k≤s.args.length∧Hid (∀j (hj:j < s.args.length),j < k→isExprB m s.args[j]=true)) (fun xv iv=>s.args.length - (intOf iv).toNat)
          case atStart=>exact ⟨0,rfl,by omega,Lib.hid fun j _ h=>by omega⟩
          case round=>
           obtain ⟨k,rfl,hk,HD⟩:=hrel;have hk0: (0:Int)≤k:=by omega
           by_cases hlt:k < s.args.length
           · have hlti: (k:Int) < s.args.length:=by omega
             obtain ⟨ga,offa,hoa,hga,e0⟩:=HR.out.1.cell hlt;subst hoa;obtain ⟨x,hx⟩:∃x,s.args[k]=x:=⟨_,rfl⟩;have f0:w.cell? ⟨ga,offa+k,none⟩=some (.int .i64 x):=by have:=e0;unfold intAt at this;rw [Nat.mul_one,hx] at this;exact this
             have HBAD:Hid (isExprB m x=false→stmtB m s=false):=Lib.hid fun h=>by rw [HW.out,all_bad hlt (by rw [hx];exact h)];rfl
             have HGO:Hid (isExprB m x=true→∀j (hj:j < s.args.length),j < k+1→isExprB m s.args[j]=true):=Lib.hid fun h j hj hjk=>by
              by_cases e:j=k
              · subst e;rw [hx];exact h
              · exact HD.out j hj (by omega)
             clear e0 hx;go_wp2_with fail;refine (isExprC x w HK.out).mono ?_;rintro e w' ⟨rfl,rfl⟩;obtain ⟨u,hu⟩:∃u,isExprB m x=u:=⟨_,rfl⟩;rw [hu];have HU:=Lib.hid hu;clear hu;cases u
             · have HZ:=Lib.hid (HBAD.out HU.out);go_wp2_with fail;go_ret;exact ⟨retB HZ.out.symm,Below.refl _ _⟩
             · have HZ:=Lib.hid (HGO.out HU.out);go_wp2_with fail;go_round;case rel=>exact ⟨k+1,by go_num,by omega,HZ⟩
               case measure=>simp [intOf];omega
           · have hlti:¬ (k:Int) < s.args.length:=by omega
             obtain ⟨st,hst⟩:∃b,settableB m s.a=b:=⟨_,rfl⟩;have HT:Hid (stmtB m s= ((!(decide (s.kind=2∨s.kind=9)) || st) && (!mt || receivesB m s))):=Lib.hid (by rw [HW.out,all_of fun j hj=>HD.out j hj (by omega),hst,Bool.true_and]);have HST:Hid (settableB m s.a=st):=Lib.hid hst;have d1:=HSC.out.c1;have d0:=HSC.out.c0;clear hst HW HD;by_cases k2:s.kind=2
             · have b2: (s.kind == 2)=true:=by simp [k2]
               have HT2:Hid (stmtB m s= (st && (!mt || receivesB m s))):=Lib.hid (by rw [HT.out,k2];simp);clear k2 HT;go_wp2_with fail;refine (settableC s.a w HK.out).mono ?_;rintro e w' ⟨rfl,rfl⟩;rw [HST.out];cases st
               · have HZ:Hid (stmtB m s=false):=Lib.hid (by rw [HT2.out];rfl);go_wp2_with fail;go_ret;exact ⟨retB HZ.out.symm,Below.refl _ _⟩
               · cases mt
                 · have HZ:Hid (stmtB m s=true):=Lib.hid (by rw [HT2.out];rfl);go_wp2_with fail;go_ret;exact ⟨retB HZ.out.symm,Below.refl _ _⟩
                 · have HZ:Hid (stmtB m s=receivesB m s):=Lib.hid (by rw [HT2.out];rfl);go_wp2_with fail;refine (receivesC w HK.out HS.out hg).mono ?_;rintro e w' ⟨rfl,hbe⟩;have HBE:=Lib.hid hbe;clear hbe;go_wp2_with fail;go_ret;exact ⟨retB HZ.out.symm,HBE.out⟩
             by_cases k9:s.kind=9
             · have b2: (s.kind == 2)=false:=by simp [k9]
               have b9: (s.kind == 9)=true:=by simp [k9]
               have HT2:Hid (stmtB m s= (st && (!mt || receivesB m s))):=Lib.hid (by rw [HT.out,k9];simp);clear k2 k9 HT;go_wp2_with fail;refine (settableC s.a w HK.out).mono ?_;rintro e w' ⟨rfl,rfl⟩;rw [HST.out];cases st
               · have HZ:Hid (stmtB m s=false):=Lib.hid (by rw [HT2.out];rfl);go_wp2_with fail;go_ret;exact ⟨retB HZ.out.symm,Below.refl _ _⟩
               · cases mt
                 · have HZ:Hid (stmtB m s=true):=Lib.hid (by rw [HT2.out];rfl);go_wp2_with fail;go_ret;exact ⟨retB HZ.out.symm,Below.refl _ _⟩
                 · have HZ:Hid (stmtB m s=receivesB m s):=Lib.hid (by rw [HT2.out];rfl);go_wp2_with fail;refine (receivesC w HK.out HS.out hg).mono ?_;rintro e w' ⟨rfl,hbe⟩;have HBE:=Lib.hid hbe;clear hbe;go_wp2_with fail;go_ret;exact ⟨retB HZ.out.symm,HBE.out⟩
             · have b2: (s.kind == 2)=false:=by simp [k2]
               have b9: (s.kind == 9)=false:=by simp [k9]
               have HT2:Hid (stmtB m s= (!mt || receivesB m s)):=Lib.hid (by rw [HT.out];simp [k2,k9]);clear k2 k9 HT;cases mt
               · have HZ:Hid (stmtB m s=true):=Lib.hid (by rw [HT2.out];rfl);go_wp2_with fail;go_ret;exact ⟨retB HZ.out.symm,Below.refl _ _⟩
               · have HZ:Hid (stmtB m s=receivesB m s):=Lib.hid (by rw [HT2.out];rfl);go_wp2_with fail;refine (receivesC w HK.out HS.out hg).mono ?_;rintro e w' ⟨rfl,hbe⟩;have HBE:=Lib.hid hbe;clear hbe;go_wp2_with fail;go_ret;exact ⟨retB HZ.out.symm,HBE.out⟩
end Go.Proofs.YthfldokfnjpkmaaGreatDoor
