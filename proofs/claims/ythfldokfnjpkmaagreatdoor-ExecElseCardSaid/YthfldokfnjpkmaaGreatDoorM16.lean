/- The place of the message that is received. -/
import Derived.Test.YthfldokfnjpkmaaGreatDoorM15
import Derived.WalkMore
import Derived.StillTailTactics
import Derived.Deep.RegionLaw
set_option linter.unusedVariables false
set_option linter.unusedSimpArgs false
namespace Go.Proofs.YthfldokfnjpkmaaGreatDoor
open Go.ChangeShapes Go.WideShapes Go.ChangeAt Go.RowKit
theorem matches_short {want mat msg:List Int} (h:msg.length < mat.length∨want.length < mat.length):matchesB want mat msg=false:=by
 unfold matchesB;rw [decide_eq_false (by omega)];rfl
theorem getD_at {l:List Int} {j:Nat} (h:j < l.length):l.getD j 0=l[j]:=by
 rw [List.getD_eq_getElem?_getD,List.getElem?_eq_getElem h];rfl
theorem matches_bad {want mat msg:List Int} {j:Nat} (h1:j < mat.length) (h2:j < msg.length) (h3:j < want.length) (h4:mat[j]=1) (h5:msg[j]≠want[j]):matchesB want mat msg=false:=by
 unfold matchesB;rw [show ((List.range mat.length).all (fun i=> !(decide (mat.getD i 0=1) && decide (msg.getD i 0≠want.getD i 0))))=false from by
  rw [List.all_eq_false];refine ⟨j,List.mem_range.2 h1, ?_⟩;rw [getD_at h1,getD_at h2,getD_at h3,decide_eq_true h4,decide_eq_true h5];simp]
 rw [Bool.and_false]
theorem matches_ok {want mat msg:List Int} (h1:mat.length≤msg.length) (h2:mat.length≤want.length) (h:∀j (hj:j < mat.length),¬ (mat[j]=1∧msg[j]≠want[j])):matchesB want mat msg=true:=by
 unfold matchesB;rw [decide_eq_true ⟨h1,h2⟩,Bool.true_and,List.all_eq_true];intro j hj;have hj:=List.mem_range.1 hj;rw [getD_at hj,getD_at (by omega:j < msg.length),getD_at (by omega:j < want.length)];have:=h j hj;simp only [Bool.not_eq_true',Bool.and_eq_false_iff,decide_eq_false_iff_not];by_cases e:mat[j]=1
 · exact .inr fun e2=>this ⟨e,e2⟩
 · exact .inl e
theorem find_step {want mat:List Int} {any:Bool} {q:List (List Int)} {i:Nat} {R:Int} (hi:i < q.length) (h:findF want mat any (q.drop i) i=R): (if 0 < i∧any=false then -1 else if matchesB want mat q[i]=true then (i:Int) else findF want mat any (q.drop (i+1)) (i+1))=R:=by
 rw [List.drop_eq_getElem_cons hi] at h;exact h
theorem find_end {want mat:List Int} {any:Bool} {q:List (List Int)} {i:Nat} {R:Int} (hi:¬i < q.length) (h:findF want mat any (q.drop i) i=R):R= -1:=by
 rw [List.drop_eq_nil_of_le (by omega)] at h;exact h.symm
set_option maxHeartbeats 4000000 in
set_option maxRecDepth 100000 in
theorem findC {B:Nat} (sh:Int) (q:List (List Int)) (want mat:List Int) (any:Bool) (qo o1 o2:Option Addr) (qc p1 p2:Nat) (w:World) (hB:B≤w.heap.size) (hq:Row B qo 1 (msgAt B w) q) (h1:Row B o1 1 (intAt w) want) (h2:Row B o2 1 (intAt w) mat):
 Calls Tryz.prog 117 #[.agg #[.int .i64 sh,.slice qo q.length qc],.slice o1 want.length p1,.slice o2 mat.length p2,.bool any] w fun e w'=>e= .returned (.int .i64 (findF want mat any q 0))∧Below w.heap.size w w':=by
 have HR:=Lib.hid (And.intro hq (And.intro h1 h2));have lq:=hq.1;have l1:=h1.1;have l2:=h2.1;clear hq h1 h2;obtain ⟨R,hR⟩:∃R,findF want mat any q 0=R:=⟨_,rfl⟩;have HF0:Hid (findF want mat any (q.drop 0) 0=R):=Lib.hid hR;rw [hR];clear hR;have HX:=Lib.hid (Bx.new w #[.int .i64 sh,.slice qo q.length qc] 81);go_enter Tryz.func117,Tryz.ntmps117;go_wp2;go_step3;go_wp2_with fail;go_step3;go_wp2_with fail;have HBX:=Lib.hid HX.out.bel;generalize w.alloc (Obj.cells #[.int .i64 sh,.slice qo q.length qc] 81)=W0 at HX HBX ⊢
 go_loopw [16] (fun iv W=>∃i:Nat,iv= .int .i64 i∧i≤q.length∧Hid (findF want mat any (q.drop i) i=R)∧Hid (Below w.heap.size w W)) (fun iv _=>q.length - (intOf iv).toNat)
 case atStart=>exact ⟨0,rfl,by omega,HF0,HBX⟩
 case round=>
  clear HF0 HX HBX;obtain ⟨i,rfl,hi,HF,HB⟩:=hrel;have hi0: (0:Int)≤i:=by omega
  by_cases hlt:i < q.length
  · have hlti: (i:Int) < q.length:=by omega
    have HS:=Lib.hid (find_step hlt HF.out);obtain ⟨g1,off1,ho1,hg1,mo,mc,e0,hms⟩:=HR.out.1.cell hlt;have e1:=(HB.out.mono hB).cell hg1 |>.trans e0;clear e0;subst ho1;obtain ⟨msg,hmsg⟩:∃x,q[i]=x:=⟨_,rfl⟩;rw [hmsg] at e1 hms HS;rw [Nat.mul_one] at e1;have HM:=Lib.hid hms;have lm:=hms.1;clear hms hmsg;by_cases hz:0 < i
    · have hz1:decide (0 < (i:Int))=true:=decide_eq_true (by omega);cases any
      · have HE:Hid (R= -1):=Lib.hid (by have:=HS.out;rw [if_pos ⟨hz,rfl⟩] at this;exact this.symm);go_wp2_with fail;go_ret;exact ⟨retI HE.out.symm,HB.out⟩
      have HN:Hid ((if matchesB want mat msg=true then (i:Int) else findF want mat true (q.drop (i+1)) (i+1))=R):=Lib.hid (by have:=HS.out;rw [if_neg (by simp)] at this;exact this);clear HS;by_cases hs1:msg.length < mat.length
      · have hs1':decide ((msg.length:Int) < (mat.length:Int))=true:=decide_eq_true (by omega);have hs1n:decide (msg.length < mat.length)=true:=decide_eq_true (by omega);have HG:Hid (findF want mat true (q.drop (i+1)) (i+1)=R):=Lib.hid (by have:=HN.out;rw [matches_short (.inl hs1),if_neg (by simp)] at this;exact this);go_wp2_with fail;go_roundw;case rel=>exact ⟨i+1,by go_num,by omega,HG,HB⟩
        case measure=>simp [intOf];omega
      · have hs1':decide ((msg.length:Int) < (mat.length:Int))=false:=decide_eq_false (by omega);have hs1n:decide (msg.length < mat.length)=false:=decide_eq_false (by omega);by_cases hs2:want.length < mat.length
        · have hs2':decide ((want.length:Int) < (mat.length:Int))=true:=decide_eq_true (by omega);have hs2n:decide (want.length < mat.length)=true:=decide_eq_true (by omega);have HG:Hid (findF want mat true (q.drop (i+1)) (i+1)=R):=Lib.hid (by have:=HN.out;rw [matches_short (.inr hs2),if_neg (by simp)] at this;exact this);go_wp2_with fail;go_roundw;case rel=>exact ⟨i+1,by go_num,by omega,HG,HB⟩
          case measure=>simp [intOf];omega
        · have hs2':decide ((want.length:Int) < (mat.length:Int))=false:=decide_eq_false (by omega);have hs2n:decide (want.length < mat.length)=false:=decide_eq_false (by omega);go_wp2_with fail;clear e1
          go_loopw [41] (fun jv W=>∃j:Nat,jv= .int .i64 j∧j≤mat.length∧Hid (∀k (hk:k < mat.length),k < j→∀ (hk2:k < msg.length) (hk3:k < want.length),¬ (mat[k]=1∧msg[k]≠want[k]))∧Hid (Below w.heap.size w W)) (fun jv _=>mat.length - (intOf jv).toNat)
          case atStart=>exact ⟨0,rfl,by omega,Lib.hid fun k _ h=>by omega,HB⟩
          case round=>
           obtain ⟨j,rfl,hj,HJ,HB2⟩:=hrel;have hj0: (0:Int)≤j:=by omega
           by_cases hjl:j < mat.length
           · have hjli: (j:Int) < mat.length:=by omega
             have hjm:j < msg.length:=by omega
             have hjw:j < want.length:=by omega
             have hjmi: (j:Int) < msg.length:=by omega
             have hjwi: (j:Int) < want.length:=by omega
             obtain ⟨gm,offm,hom,-,em⟩:=(HM.out.mono fun _ _ _ hg=>intAt.below (B:=B) (HB2.out.mono hB) hg).cell hjm;obtain ⟨gw,offw,how,-,ew⟩:=(HR.out.2.1.mono fun _ _ _ hg=>intAt.below (HB2.out.mono hB) hg).cell hjw;obtain ⟨ga,offa,hoa,-,ea⟩:=(HR.out.2.2.mono fun _ _ _ hg=>intAt.below (HB2.out.mono hB) hg).cell hjl;obtain ⟨a,ha⟩:∃x,mat[j]=x:=⟨_,rfl⟩;obtain ⟨m,hm⟩:∃x,msg[j]=x:=⟨_,rfl⟩;obtain ⟨v,hv⟩:∃x,want[j]=x:=⟨_,rfl⟩;rw [ha] at ea;rw [hm] at em;rw [hv] at ew;unfold intAt at ea em ew;rw [Nat.mul_one] at ea em ew;subst hom how hoa;have HBAD:Hid (a=1→m≠v→findF want mat true (q.drop (i+1)) (i+1)=R):=Lib.hid fun h1 h2=>by
              have:=HN.out;rw [matches_bad hjl hjm hjw (by rw [ha];exact h1) (by rw [hm,hv];exact h2),if_neg (by simp)] at this;exact this
             have HGO:Hid (¬ (a=1∧m≠v)→∀k (hk:k < mat.length),k < j+1→∀ (hk2:k < msg.length) (hk3:k < want.length),¬ (mat[k]=1∧msg[k]≠want[k])):=Lib.hid fun h k hk hkj hk2 hk3=>by
              by_cases e:k=j
              · subst e;rw [ha,hm,hv];exact h
              · exact HJ.out k hk (by omega) hk2 hk3
             clear ha hm hv;by_cases h1:a=1
             · have h1': (a == 1)=true:=by rw [beq_iff_eq];exact h1
               by_cases h2:m=v
               · have h2': (m != v)=false:=by rw [bne_eq_false_iff_eq];exact h2
                 have HZ:=Lib.hid (HGO.out fun h=>h.2 h2);clear h1 h2;go_wp2_with fail;go_quiet (fail);have HB3:Hid (Below w.heap.size w (wr.drewN nq)):=Lib.hid (bdrew HB2.out nq);generalize wr.drewN nq=W3 at HB3 ⊢;clear ea em ew;go_wp2_with fail;go_roundw;case rel=>exact ⟨j+1,by go_num,by omega,HZ,HB3⟩
                 case measure=>simp [intOf];omega
               · have h2': (m != v)=true:=by rw [bne_iff_ne];exact h2
                 have HZ:=Lib.hid (HBAD.out h1 h2);clear h1 h2;go_wp2_with fail;go_quiet (fail);have HB3:Hid (Below w.heap.size w (wr.drewN nq)):=Lib.hid (bdrew HB2.out nq);generalize wr.drewN nq=W3 at HB3 ⊢;clear ea em ew;go_wp2_with fail;go_roundw;case rel=>exact ⟨i+1,by go_num,by omega,HZ,HB3⟩
                 case measure=>simp [intOf];omega
             · have h1': (a == 1)=false:=by rw [beq_eq_false_iff_ne];exact h1
               have HZ:=Lib.hid (HGO.out fun h=>h1 h.1);clear h1;go_wp2_with fail;go_quiet (fail);have HB3:Hid (Below w.heap.size w (wr.drewN nq)):=Lib.hid (bdrew HB2.out nq);generalize wr.drewN nq=W3 at HB3 ⊢;clear ea em ew;go_wp2_with fail;go_roundw;case rel=>exact ⟨j+1,by go_num,by omega,HZ,HB3⟩
               case measure=>simp [intOf];omega
           · have hjli:¬ (j:Int) < mat.length:=by omega
             have HE:Hid (R= (i:Int)):=Lib.hid (by
              have:=HN.out;rw [matches_ok (by omega) (by omega) fun k hk=>HJ.out k hk (by omega) (by omega) (by omega),if_pos rfl] at this;exact this.symm)
             go_wp2_with fail;go_ret;exact ⟨retI HE.out.symm,HB2.out⟩
    · have hz1:decide (0 < (i:Int))=false:=decide_eq_false (by omega);have HN:Hid ((if matchesB want mat msg=true then (i:Int) else findF want mat any (q.drop (i+1)) (i+1))=R):=Lib.hid (by have:=HS.out;rw [if_neg (fun h=>hz h.1)] at this;exact this);clear HS;by_cases hs1:msg.length < mat.length
      · have hs1':decide ((msg.length:Int) < (mat.length:Int))=true:=decide_eq_true (by omega);have hs1n:decide (msg.length < mat.length)=true:=decide_eq_true (by omega);have HG:Hid (findF want mat any (q.drop (i+1)) (i+1)=R):=Lib.hid (by have:=HN.out;rw [matches_short (.inl hs1),if_neg (by simp)] at this;exact this);go_wp2_with fail;go_roundw;case rel=>exact ⟨i+1,by go_num,by omega,HG,HB⟩
        case measure=>simp [intOf];omega
      · have hs1':decide ((msg.length:Int) < (mat.length:Int))=false:=decide_eq_false (by omega);have hs1n:decide (msg.length < mat.length)=false:=decide_eq_false (by omega);by_cases hs2:want.length < mat.length
        · have hs2':decide ((want.length:Int) < (mat.length:Int))=true:=decide_eq_true (by omega);have hs2n:decide (want.length < mat.length)=true:=decide_eq_true (by omega);have HG:Hid (findF want mat any (q.drop (i+1)) (i+1)=R):=Lib.hid (by have:=HN.out;rw [matches_short (.inr hs2),if_neg (by simp)] at this;exact this);go_wp2_with fail;go_roundw;case rel=>exact ⟨i+1,by go_num,by omega,HG,HB⟩
          case measure=>simp [intOf];omega
        · have hs2':decide ((want.length:Int) < (mat.length:Int))=false:=decide_eq_false (by omega);have hs2n:decide (want.length < mat.length)=false:=decide_eq_false (by omega);go_wp2_with fail;clear e1
          go_loopw [41] (fun jv W=>∃j:Nat,jv= .int .i64 j∧j≤mat.length∧Hid (∀k (hk:k < mat.length),k < j→∀ (hk2:k < msg.length) (hk3:k < want.length),¬ (mat[k]=1∧msg[k]≠want[k]))∧Hid (Below w.heap.size w W)) (fun jv _=>mat.length - (intOf jv).toNat)
          case atStart=>exact ⟨0,rfl,by omega,Lib.hid fun k _ h=>by omega,HB⟩
          case round=>
           obtain ⟨j,rfl,hj,HJ,HB2⟩:=hrel;have hj0: (0:Int)≤j:=by omega
           by_cases hjl:j < mat.length
           · have hjli: (j:Int) < mat.length:=by omega
             have hjm:j < msg.length:=by omega
             have hjw:j < want.length:=by omega
             have hjmi: (j:Int) < msg.length:=by omega
             have hjwi: (j:Int) < want.length:=by omega
             obtain ⟨gm,offm,hom,-,em⟩:=(HM.out.mono fun _ _ _ hg=>intAt.below (B:=B) (HB2.out.mono hB) hg).cell hjm;obtain ⟨gw,offw,how,-,ew⟩:=(HR.out.2.1.mono fun _ _ _ hg=>intAt.below (HB2.out.mono hB) hg).cell hjw;obtain ⟨ga,offa,hoa,-,ea⟩:=(HR.out.2.2.mono fun _ _ _ hg=>intAt.below (HB2.out.mono hB) hg).cell hjl;obtain ⟨a,ha⟩:∃x,mat[j]=x:=⟨_,rfl⟩;obtain ⟨m,hm⟩:∃x,msg[j]=x:=⟨_,rfl⟩;obtain ⟨v,hv⟩:∃x,want[j]=x:=⟨_,rfl⟩;rw [ha] at ea;rw [hm] at em;rw [hv] at ew;unfold intAt at ea em ew;rw [Nat.mul_one] at ea em ew;subst hom how hoa;have HBAD:Hid (a=1→m≠v→findF want mat any (q.drop (i+1)) (i+1)=R):=Lib.hid fun h1 h2=>by
              have:=HN.out;rw [matches_bad hjl hjm hjw (by rw [ha];exact h1) (by rw [hm,hv];exact h2),if_neg (by simp)] at this;exact this
             have HGO:Hid (¬ (a=1∧m≠v)→∀k (hk:k < mat.length),k < j+1→∀ (hk2:k < msg.length) (hk3:k < want.length),¬ (mat[k]=1∧msg[k]≠want[k])):=Lib.hid fun h k hk hkj hk2 hk3=>by
              by_cases e:k=j
              · subst e;rw [ha,hm,hv];exact h
              · exact HJ.out k hk (by omega) hk2 hk3
             clear ha hm hv;by_cases h1:a=1
             · have h1': (a == 1)=true:=by rw [beq_iff_eq];exact h1
               by_cases h2:m=v
               · have h2': (m != v)=false:=by rw [bne_eq_false_iff_eq];exact h2
                 have HZ:=Lib.hid (HGO.out fun h=>h.2 h2);clear h1 h2;go_wp2_with fail;go_quiet (fail);have HB3:Hid (Below w.heap.size w (wr.drewN nq)):=Lib.hid (bdrew HB2.out nq);generalize wr.drewN nq=W3 at HB3 ⊢;clear ea em ew;go_wp2_with fail;go_roundw;case rel=>exact ⟨j+1,by go_num,by omega,HZ,HB3⟩
                 case measure=>simp [intOf];omega
               · have h2': (m != v)=true:=by rw [bne_iff_ne];exact h2
                 have HZ:=Lib.hid (HBAD.out h1 h2);clear h1 h2;go_wp2_with fail;go_quiet (fail);have HB3:Hid (Below w.heap.size w (wr.drewN nq)):=Lib.hid (bdrew HB2.out nq);generalize wr.drewN nq=W3 at HB3 ⊢;clear ea em ew;go_wp2_with fail;go_roundw;case rel=>exact ⟨i+1,by go_num,by omega,HZ,HB3⟩
                 case measure=>simp [intOf];omega
             · have h1': (a == 1)=false:=by rw [beq_eq_false_iff_ne];exact h1
               have HZ:=Lib.hid (HGO.out fun h=>h1 h.1);clear h1;go_wp2_with fail;go_quiet (fail);have HB3:Hid (Below w.heap.size w (wr.drewN nq)):=Lib.hid (bdrew HB2.out nq);generalize wr.drewN nq=W3 at HB3 ⊢;clear ea em ew;go_wp2_with fail;go_roundw;case rel=>exact ⟨j+1,by go_num,by omega,HZ,HB3⟩
               case measure=>simp [intOf];omega
           · have hjli:¬ (j:Int) < mat.length:=by omega
             have HE:Hid (R= (i:Int)):=Lib.hid (by
              have:=HN.out;rw [matches_ok (by omega) (by omega) fun k hk=>HJ.out k hk (by omega) (by omega) (by omega),if_pos rfl] at this;exact this.symm)
             go_wp2_with fail;go_ret;exact ⟨retI HE.out.symm,HB2.out⟩
  · have hlti:¬ (i:Int) < q.length:=by omega
    have HE:=Lib.hid (find_end hlt HF.out);go_wp2_with fail;go_ret;exact ⟨retI HE.out.symm,HB.out⟩
end Go.Proofs.YthfldokfnjpkmaaGreatDoor
namespace Go.Proofs.YthfldokfnjpkmaaGreatDoor
open Go.ChangeShapes Go.WideShapes Go.ChangeAt Go.RowKit
theorem poll_eq {E:EnvD} {ev:Int→Int × Int} {x:ExprD} {k:Nat} {c:ChanD} {s:ShapeD} (h1:rchanB E ev x.a= ((k:Int)+1,0)) (h2:E.s.chans[k]? =some c) (h3:E.m.shapes[c.shape.toNat]? =some s):
 rpollB E ev x=if s.fields.length≠x.args.length then (0,49) else if (wantedF ev (x.args.zip x.mat)).2≠0 then (0,(wantedF ev (x.args.zip x.mat)).2) else (truthI (decide (0≤findF (wantedF ev (x.args.zip x.mat)).1 x.mat (decide (x.n=1)) c.queue 0)),0):=by
 unfold rpollB;rw [h1,if_neg (by simp),chanNo_get h2,shapeNo_get h3]
set_option maxHeartbeats 1000000 in
set_option maxRecDepth 100000 in
theorem pollC {B pe g a:Nat} {h:MH} {hs:SH} {ao:Option Addr} {ac:Nat} {E:EnvD} {ev:Int→Int × Int} {N:Nat} {x:ExprD} (w:World) (hk:Ek B w pe h hs ao ac E) (hok:Ok E) (he:EvC B pe h hs ao ac E ev N) (hx:exprAt B w g a x) (hg:g < B) (hx0:0≤x.a) (hxN:x.a < N) (hn:x.args.length≤8) (hm:x.mat.length=x.args.length) (hin:∀q ∈ x.args,0≤q∧q < N):
 Calls Tryz.prog 67 #[.pointer (some ⟨pe,0,none⟩),.pointer (some ⟨g,a,none⟩)] w fun e w'=>e= .returned (.tuple #[.int .i64 (rpollB E ev x).1,.int .i64 (rpollB E ev x).2])∧Below w.heap.size w w':=by
 have HK:=Lib.hid hk;have HO:=Lib.hid hok;have HE:=Lib.hid he;have hB:B≤w.heap.size:=hk.leW;have hgw:g < w.heap.size:=by omega
 obtain ⟨xo,xc,xs6,hxa⟩:=hx.args;obtain ⟨mo,mc,xs7,hxm⟩:=hx.mat;have l6:=hxa.1;have l7:=hxm.1;have x2:=hx.c2;have HIN:=Lib.hid hin;have HNM:=Lib.hid (And.intro hn hm);have HCX:Hid (∀W,Below w.heap.size w W→W.cell? ⟨g,a+1,none⟩=some (.int .i64 x.n)∧W.cell? ⟨g,a+10,none⟩=some (.slice xo x.args.length xc)∧W.cell? ⟨g,a+11,none⟩=some (.slice mo x.mat.length mc)∧Row B xo 1 (intAt W) x.args∧Row B mo 1 (intAt W) x.mat):=Lib.hid fun W hb=>
  ⟨(hb.cell hgw).trans hx.c1,(hb.cell hgw).trans xs6,(hb.cell hgw).trans xs7,hxa.mono fun _ _ _ hg=>intAt.below (hb.mono hB) hg,hxm.mono fun _ _ _ hg=>intAt.below (hb.mono hB) hg⟩
 have HC:=Lib.hid (chanC x.a w hk he hx0 hxN);clear hk hok he hx hxa hxm hin xs6 xs7 hn hm;obtain ⟨⟨v,er⟩,hev⟩:∃q,rchanB E ev x.a=q:=⟨_,rfl⟩;rw [hev] at HC;simp only at HC;go_enter Tryz.func67,Tryz.ntmps67;go_wp2_with fail;refine HC.out.mono ?_;rintro e W1 ⟨rfl,hb1⟩;have HB1:=Lib.hid hb1;have HK1:=Lib.hid (HK.out.below hb1);clear hb1 x2 HC;by_cases h0:er=0
 · have hd0: (er != 0)=false:=by rw [bne_eq_false_iff_eq];exact h0
   subst h0;obtain ⟨k,hk1,hkl⟩:=rchan_ok (E:=E) (ev:=ev) (a:=x.a) (by rw [hev]);rw [hev] at hk1;have hk2:v= (k:Int)+1:=hk1;subst hk2;obtain ⟨c,hc⟩:∃s,E.s.chans[k]? =some s:=⟨_,List.getElem?_eq_getElem hkl⟩;obtain ⟨s,hs,hs0,hs1⟩:=may_chan HO.out hc;obtain ⟨ks,hks⟩:∃q:Nat,c.shape=q:=⟨c.shape.toNat,by omega⟩;have HV:=Lib.hid (poll_eq hev hc hs);rw [hks,Int.toNat_natCast] at hs;have hksl: (ks:Int) < E.m.shapes.length:=by omega
   have hks0: (0:Int)≤ks:=by omega
   have hkz: (0:Int)≤ (k:Int)+1 - 1:=by omega
   have hki: (k:Int)+1 - 1 < E.s.chans.length:=by omega
   have hke: (k:Int)+1 - 1=k:=by omega
   obtain ⟨g1,off1,ho1,hg1,hca⟩:=HK1.out.sk.sd.chans.get hc;obtain ⟨g2,off2,ho2,hg2,hsa⟩:=HK1.out.ck.md.shapes.get hs;have hcl:=HK1.out.sk.sd.chans.1;have hsl:=HK1.out.ck.md.shapes.1;have c8:=HK1.out.sk.c1;have c2:=HK1.out.ck.c2;rw [ho1] at c8;rw [ho2] at c2;have q0:=hca.c0;rw [hks] at q0;obtain ⟨qo,qc,q1,hq⟩:=hca.queue;have hql:=hq.1;have HQ:Hid (∀W,Below W1.heap.size W1 W→W.cell? ⟨g1,off1+k*2,none⟩=some (.int .i64 ks)∧W.cell? ⟨g1,off1+k*2+1,none⟩=some (.slice qo c.queue.length qc)∧Row B qo 1 (msgAt B W) c.queue):=Lib.hid fun W hb=>
    ⟨(hb.cell (by have:=HK1.out.leW;show g1 < _;omega)).trans q0,(hb.cell (by have:=HK1.out.leW;show g1 < _;omega)).trans q1,hq.mono fun _ _ _ hg=>msgAt.below (hb.mono HK1.out.leW) hg⟩
   obtain ⟨fo,fc,r1,hf⟩:=hsa.fields;have hfl:=hf.1;obtain ⟨x1,x6,x7,-,-⟩:=HCX.out W1 HB1.out;clear hq hca hsa ho1 ho2 hs hs0 hs1 hks hc hev hk1 hf;by_cases hfe:s.fields.length=x.args.length
   · have hn1: ((s.fields.length:Int) != (x.args.length:Int))=false:=by rw [bne_eq_false_iff_eq];omega
     have HV2:Hid (rpollB E ev x=if (wantedF ev (x.args.zip x.mat)).2≠0 then (0,(wantedF ev (x.args.zip x.mat)).2) else (truthI (decide (0≤findF (wantedF ev (x.args.zip x.mat)).1 x.mat (decide (x.n=1)) c.queue 0)),0)):=Lib.hid (by rw [HV.out,if_neg (fun h=>h hfe)]);have i1: (s.fields.length:Int)≤x.args.length:=by omega
     have i2: (x.args.length:Int)≤s.fields.length:=by omega
     go_wp2_with fail;go_quiet (fail);have HB2:Hid (Below W1.heap.size W1 (W1.drewN nq)):=Lib.hid (bdrew (Below.refl _ _) nq);generalize W1.drewN nq=W2 at HB2 ⊢;clear c8 c2 q0 q1 r1 x1 x6 x7 hn1 i1 i2;obtain ⟨x1,x6,x7,-,-⟩:=HCX.out W2 (HB1.out.trans (HB2.out.mono HB1.out.size));go_wp2_with fail;have HB3:Hid (Below W1.heap.size W1 W2.drew):=Lib.hid HB2.out.drew;have hcx:=HCX.out W2.drew (HB1.out.trans (HB3.out.mono HB1.out.size));have HWC:=Lib.hid (wantedC x.args x.mat xo mo xc mc W2.drew (HK1.out.below HB3.out) HE.out hcx.2.2.2.1 hcx.2.2.2.2 HNM.out.1 HNM.out.2 HIN.out);clear hcx;obtain ⟨⟨wl,we⟩,hwl⟩:∃q,wantedF ev (x.args.zip x.mat)=q:=⟨_,rfl⟩;rw [hwl] at HWC HV2;simp only at HV2;by_cases hw0:we=0
     · subst hw0;have HWC2:Hid (Calls Tryz.prog 116 #[.pointer (some ⟨pe,0,none⟩),.slice xo x.args.length xc,.slice mo x.mat.length mc] W2.drew fun e W'=>e= .returned (.tuple #[.slice (some ⟨W2.heap.size,0,none⟩) wl.length x.args.length,.int .i64 0])∧Below W1.heap.size W1 W'∧wl.length=x.args.length∧Row W'.heap.size (some ⟨W2.heap.size,0,none⟩) 1 (intAt W') wl):=Lib.hid (HWC.out.mono fun e W' hp=>⟨(hp.yes rfl).1,HB3.out.trans (hp.bel.mono HB3.out.size),(hp.yes rfl).2.1,(hp.yes rfl).2.2.1.up (hp.yes rfl).2.2.2⟩);have HV3:Hid (rpollB E ev x= (truthI (decide (0≤findF wl x.mat (decide (x.n=1)) c.queue 0)),0)):=Lib.hid (by rw [HV2.out,if_neg (by simp)]);clear HWC HV2 HV hwl
       go_region_law (
        go_simp;go_at_call 116;refine HWC2.out.mono ?_;rintro e W4 ⟨rfl,hb4,hl4,hr4⟩;have HB4:Hid (Below W1.heap.size W1 W4):=Lib.hid hb4;have HWR:Hid (Row W4.heap.size (some ⟨W2.heap.size,0,none⟩) 1 (intAt W4) wl):=Lib.hid hr4;have HL4:=Lib.hid hl4;clear hb4 hr4 hl4)
       all_goals (
        have hwl8:wl.length≤140737488355328:=by rw [HL4.out];exact l6
        clear x1 x6 x7;have hbW:=HB1.out.trans (HB4.out.mono HB1.out.size);obtain ⟨x1,x6,x7,-,-⟩:=HCX.out W4 hbW;obtain ⟨q0,q1,-⟩:=HQ.out W4 HB4.out;obtain ⟨b,hbn⟩:∃b,(x.n == 1)=b:=⟨_,rfl⟩;have HBN:Hid (decide (x.n=1)=b):=Lib.hid (by rw [←hbn];rfl);go_wp2_with fail;go_still_tail 13,(by kernel_rfl);change wpList _ _ _ _ _ W4.drew;have HB5:Hid (Below W1.heap.size W1 W4.drew):=Lib.hid HB4.out.drew;have HWR5:Hid (Row W4.drew.heap.size (some ⟨W2.heap.size,0,none⟩) 1 (intAt W4.drew) wl):=Lib.hid (HWR.out.mono fun _ _ _ hg=>intAt.below (Below.refl _ _).drew hg);clear hbW x1 x6 x7 q0 q1;generalize W4.drew=W5 at HB5 HWR5 ⊢;have hlB:B≤W5.heap.size:=Nat.le_trans HK1.out.leW HB5.out.size;have HFC:=Lib.hid (findC (B:=W5.heap.size) ks c.queue wl x.mat b qo (some ⟨W2.heap.size,0,none⟩) mo qc x.args.length mc W5 (Nat.le_refl _) ((HQ.out W5 HB5.out).2.2.lift' hlB fun _ _ _ _ h=>h.lift hlB) HWR5.out ((HCX.out W5 (HB1.out.trans (HB5.out.mono HB1.out.size))).2.2.2.2.up hlB));clear hlB;rw [HBN.out] at HV3;generalize findF wl x.mat b c.queue 0=R at HV3 HFC;go_wp2_with fail;refine HFC.out.mono ?_;rintro e W6 ⟨rfl,hb6⟩;have HB6:Hid (Below W1.heap.size W1 W6):=Lib.hid (HB5.out.trans (hb6.mono HB5.out.size));clear hb6;go_wp2_with fail;refine (truthC _ _).mono ?_;rintro e W7 ⟨rfl,rfl⟩;go_wp2_with fail;go_ret2;exact ⟨ret2 (by rw [HV3.out]) (by rw [HV3.out]),HB1.out.trans (HB6.out.mono HB1.out.size)⟩)
     · have HWC2:Hid (Calls Tryz.prog 116 #[.pointer (some ⟨pe,0,none⟩),.slice xo x.args.length xc,.slice mo x.mat.length mc] W2.drew fun e W'=>e= .returned (.tuple #[.slice none 0 0,.int .i64 we])∧Below W1.heap.size W1 W'):=Lib.hid (HWC.out.mono fun e W' hp=>⟨hp.no hw0,HB3.out.trans (hp.bel.mono HB3.out.size)⟩);have HV3:Hid (rpollB E ev x= (0,we)):=Lib.hid (by rw [HV2.out,if_pos hw0]);have hd9: (we != 0)=true:=by rw [bne_iff_ne];exact hw0
       clear HWC HV2 HV hwl hw0
       go_region_law (
        go_simp;go_at_call 116;refine HWC2.out.mono ?_;rintro e W4 ⟨rfl,hb4⟩;have HB4:Hid (Below W1.heap.size W1 W4):=Lib.hid hb4;clear hb4)
       all_goals (
        clear x1 x6 x7;go_wp2_with fail;go_ret2;exact ⟨ret2 (by rw [HV3.out]) (by rw [HV3.out]),HB1.out.trans (HB4.out.mono HB1.out.size)⟩)
   · have hn1: ((s.fields.length:Int) != (x.args.length:Int))=true:=by rw [bne_iff_ne];omega
     have HZ:Hid (rpollB E ev x= (0,49)):=Lib.hid (by rw [HV.out,if_pos hfe]);go_wp2_with fail;go_quiet (fail);have HB2:Hid (Below W1.heap.size W1 (W1.drewN nq)):=Lib.hid (bdrew (Below.refl _ _) nq);generalize W1.drewN nq=W2 at HB2 ⊢;clear c8 c2 q0 q1 r1 x1 x6 x7 hn1;go_wp2_with fail;go_ret2;exact ⟨ret2 (by rw [HZ.out]) (by rw [HZ.out]),HB1.out.trans (HB2.out.mono HB1.out.size)⟩
 · have hd0: (er != 0)=true:=by rw [bne_iff_ne];exact h0
   have HV:Hid (rpollB E ev x= (0,er)):=Lib.hid (by unfold rpollB;rw [hev];simp [h0]);go_wp2_with fail;go_ret2;exact ⟨ret2 (by rw [HV.out]) (by rw [HV.out]),HB1.out⟩
end Go.Proofs.YthfldokfnjpkmaaGreatDoor
