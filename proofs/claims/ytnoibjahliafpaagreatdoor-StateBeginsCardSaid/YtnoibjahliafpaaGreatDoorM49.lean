/- A state in memory of one's own is written over: nothing below it turns. -/
import Derived.Test.YtnoibjahliafpaaGreatDoorM17
set_option linter.unusedVariables false
set_option linter.unusedSimpArgs false
namespace Go.Proofs.YtnoibjahliafpaaGreatDoor
open Go.ChangeShapes Go.WideShapes Go.ChangeAt Go.RowKit
def fixB (t j:Nat):Bool:=(t == 1 && j % 2 == 1) || (t == 2 && j % 4 == 3) || t == 3
structure Kp (R0 R:Nat × Nat × Nat→RowS):Prop where
 h:∀k,(R k).e= (R0 k).e∧ (R k).size= (R0 k).size∧ (R k).v= (R0 k).v∧ (R k).n= (R0 k).n
 x:∀k j,fixB k.1 j=true→ (R k).xs[j]? = (R0 k).xs[j]?
theorem Kp.refl (R:Nat × Nat × Nat→RowS):Kp R R:=⟨fun _=>⟨rfl,rfl,rfl,rfl⟩,fun _ _ _=>rfl⟩
theorem Kp.set {R0 R:Nat × Nat × Nat→RowS} (h:Kp R0 R) (k:Nat × Nat × Nat) (j:Nat) (u:Value) (hf:fixB k.1 j=false):Kp R0 (upd R k ⟨(R k).e,(R k).size,(R k).v,(R k).n,(R k).xs.set j u⟩):=by
 refine ⟨fun q=> ?_,fun q i hi=> ?_⟩
 · by_cases e:q=k
   · rw [e,upd_same];exact h.h k
   · rw [upd_ne R _ e];exact h.h q
 · by_cases e:q=k
   · subst e;rw [upd_same];dsimp only;have hne:j≠i:=fun e=>by rw [e,hi] at hf;cases hf
     rw [List.getElem?_set_ne hne];exact h.x q i hi
   · rw [upd_ne R _ e];exact h.x q i hi
structure Sp (w0:World) (B:Nat) (R0:Nat × Nat × Nat→RowS) (hs:SH) (s:StateD) (W:World):Prop where
 own:∃R,Own B W R∧Kp R0 R
 box:W.heap[w0.heap.size]? =some (.cells (sCells hs s) 34 (0,0))
 bel:Below B w0 W
section
variable {w0 W:World} {B:Nat} {R0:Nat × Nat × Nat→RowS} {hs:SH} {s:StateD}
theorem Sp.cell (k:Sp w0 B R0 hs s W) {i:Nat} {v:Value} (hv: (sCells hs s)[i]? =some v):W.cell? ⟨w0.heap.size,i,none⟩=some v:=(cell_of_row _ _ _ _ _ _ k.box).trans hv
theorem Sp.row (k:Sp w0 B R0 hs s W) {q:Nat × Nat × Nat} {e:TypeId} {size n c:Nat} {o:Option Addr} {xs:List Value} (hq:R0 q= ⟨e,size,.slice o n c,n,xs⟩) (hT:e≠34) {j:Nat} (hj:j < n*size):
 ∃g,o=some ⟨g,0,none⟩∧ (∃v,W.cell? ⟨g,j,none⟩=some v)∧W.frozen? ⟨g,j,none⟩=false∧ (fixB q.1 j=false→∀u,Sp w0 B R0 hs s (W.setCell ⟨g,j,none⟩ u))∧ (fixB q.1 j=true→W.cell? ⟨g,j,none⟩=xs[j]?):=by
 obtain ⟨R,hO,hK⟩:=k.own;have hr:=hO.row q;obtain ⟨h1,h2,h3,h4⟩:=hK.h q;rw [h1,h2,h3,h4,hq] at hr;dsimp only at hr;have hn:0 < n:=Nat.pos_of_ne_zero fun h=>by rw [h,Nat.zero_mul] at hj;omega
 obtain ⟨g,cap,ev⟩:=Joins.ownsRow_form hr hn;injection ev with e1 e2 e3
 subst e1;have hl:=hr.lt g rfl;have hc:=hr.cellAt j hj;have hlen:=hr.1;refine ⟨g,rfl,⟨_,hc.trans (List.getElem?_eq_getElem (by omega))⟩,hr.frozenAt j,fun hf u=>⟨?_, ?_,k.bel.setCell hl.1 _⟩,fun hf=> ?_⟩
 · have hv: (R q).v= .slice (some ⟨g,0,none⟩) n c:=by rw [h3,hq]
   have hn2: (R q).n=n:=by rw [h4,hq]
   exact ⟨_,hO.set q hv hn2 j u,hK.set q j u hf⟩
 · have hne:w0.heap.size≠g:=fun e=>owns_neObj hr k.box hT (by rw [e];rfl)
   rw [heap_setCell_other _ _ _ _ hne];exact k.box
 · have:=hK.x q j hf;rw [hq] at this;exact hc.trans this
end
set_option maxRecDepth 100000 in
set_option maxHeartbeats 4000000 in
theorem spoilC {B:Nat} {hs:SH} {s:StateD} (w:World) (hB:B≤w.heap.size) (hso:SO B w hs s) (hl:Lens s):
 Calls Tryz.prog 15 #[sV hs s] w fun e w'=>e= .returned (.tuple #[])∧Below B w w':=by
 obtain ⟨R0,hO,hS⟩:=hso;have HS:=Lib.hid hS;have HL:=Lib.hid hl;have HX0:Hid (Sp w B R0 hs s (w.alloc (.cells (sCells hs s) 34))):=Lib.hid ⟨⟨R0,hO.below (ball _),Kp.refl _⟩,heap_alloc_new _ _,(Below.refl _ _).alloc hB _⟩;have hgl:=hl.g;have hcl:=hl.c;have hpl:=hl.p;clear hO hS hl;unfold sCells at HX0;unfold sV sCells;go_enter Tryz.func15,Tryz.ntmps15;go_wp2_with fail;generalize w.alloc (.cells #[.slice hs.go s.globals.length hs.gc,.slice hs.co s.chans.length hs.cc,.slice hs.po s.procs.length hs.pc,.int .i64 s.last,.int .i64 s.alone,.int .i64 s.claim] 34)=W0 at HX0 ⊢
 go_loopw [2] (fun iv W=>∃i:Nat,iv= .int .i64 i∧i≤s.globals.length∧Hid (Sp w B R0 hs s W)) (fun iv _=>s.globals.length - (intOf iv).toNat)
 case atStart=>exact ⟨0,rfl,by omega,HX0⟩
 case round=>
  clear HX0;obtain ⟨i,rfl,hi,HX⟩:=hrel;have hi0: (0:Int)≤i:=by omega
  by_cases hlt:i < s.globals.length
  · have hlti: (i:Int) < s.globals.length:=by omega
    obtain ⟨g,ho,⟨v,hc⟩,hf,hset,-⟩:=HX.out.row HS.out.g (by decide) (j:=i) (by omega);have HZ:=Lib.hid (hset rfl (.int .i64 (-99)));have x0:wr.cell? ⟨w.heap.size,0,none⟩=some (.slice (some ⟨g,0,none⟩) s.globals.length hs.gc):=by rw [←ho];exact HX.out.cell rfl
    clear hset ho;go_wp2_with fail;go_roundw;case rel=>exact ⟨i+1,by go_num,by omega,HZ⟩
    case measure=>simp [intOf];omega
  have hlti:¬ (i:Int) < s.globals.length:=by omega
  have x0:wr.cell? ⟨w.heap.size,0,none⟩=some (.slice hs.go s.globals.length hs.gc):=HX.out.cell rfl;go_wp2_with fail;clear x0 hlti hlt hi0 hi
  go_loopw [3] (fun iv W=>∃i:Nat,iv= .int .i64 i∧i≤s.procs.length∧Hid (Sp w B R0 hs s W)) (fun iv _=>s.procs.length - (intOf iv).toNat)
  case atStart=>exact ⟨0,rfl,by omega,HX⟩
  case round=>
   clear HX;obtain ⟨i,rfl,hi,HX⟩:=hrel;have hi0: (0:Int)≤i:=by omega
   by_cases hlt:i < s.procs.length
   · have hlti: (i:Int) < s.procs.length:=by omega
     obtain ⟨xs,hxp,hpi⟩:=HS.out.p;obtain ⟨-,-,-,x3,fo,fc,hF⟩:=hpi i hlt;rw [hF] at x3;dsimp only at x3;have HXP:=Lib.hid hxp;have HFR:=Lib.hid hF;have HX3:=Lib.hid x3;have hfl:=HL.out.f _ (List.getElem_mem hlt);obtain ⟨fr,hfr⟩:∃l,s.procs[i].frame=l:=⟨_,rfl⟩;rw [hfr] at HFR HX3 hfl;clear hxp hpi hF x3 hfr;have HC:Hid (∀W,Sp w B R0 hs s W→∃gp,hs.po=some ⟨gp,0,none⟩∧W.cell? ⟨w.heap.size,2,none⟩=some (.slice (some ⟨gp,0,none⟩) s.procs.length hs.pc)∧W.cell? ⟨gp,i*4+3,none⟩=some (.slice fo fr.length fc)):=Lib.hid fun W k=>by
      obtain ⟨gp,ho,-,-,-,hfix⟩:=k.row HXP.out (by decide) (j:=i*4+3) (by omega);refine ⟨gp,ho,by rw [←ho];exact k.cell rfl,(hfix (by unfold fixB;simp [kP] <;> omega)).trans HX3.out⟩
     have x2:wr.cell? ⟨w.heap.size,2,none⟩=some (.slice hs.po s.procs.length hs.pc):=HX.out.cell rfl;go_wp2_with fail;clear x2
     go_loopw [4] (fun iv W=>∃j:Nat,iv= .int .i64 j∧j≤fr.length∧Hid (Sp w B R0 hs s W)) (fun iv _=>fr.length - (intOf iv).toNat)
     case atStart=>exact ⟨0,rfl,by omega,HX⟩
     case round=>
      clear HX;obtain ⟨j,rfl,hj,HX⟩:=hrel;have hj0: (0:Int)≤j:=by omega
      obtain ⟨gp,hgp,c2,c3⟩:=HC.out wr HX.out;by_cases hjl:j < fr.length
      · have hjli: (j:Int) < fr.length:=by omega
        obtain ⟨g,ho,⟨v,hc⟩,hf,hset,-⟩:=HX.out.row HFR.out (by decide) (j:=j) (by omega);have HZ:=Lib.hid (hset rfl (.int .i64 (-98)));rw [ho] at c3;clear hset;go_wp2_with fail;go_roundw;case rel=>exact ⟨j+1,by go_num,by omega,HZ⟩
        case measure=>simp [intOf];omega
      have hjli:¬ (j:Int) < fr.length:=by omega
      obtain ⟨g,ho,⟨v,hc⟩,hf,hset,-⟩:=HX.out.row HXP.out (by decide) (j:=i*4+1) (by omega);have eg:g=gp:=by rw [hgp] at ho;injection ho with ho;injection ho with ho;exact ho.symm
      subst eg;have HZ:=Lib.hid (hset (by unfold fixB;simp [kP] <;> omega) (.int .i64 (-97)));clear hset ho;go_wp2_with fail;go_roundw;case rel=>exact ⟨i+1,by go_num,by omega,HZ⟩
      case measure=>simp [intOf];omega
   have hlti:¬ (i:Int) < s.procs.length:=by omega
   have x2:wr.cell? ⟨w.heap.size,2,none⟩=some (.slice hs.po s.procs.length hs.pc):=HX.out.cell rfl;go_wp2_with fail;clear x2 hlti hlt hi0 hi
   go_loopw [5] (fun iv W=>∃i:Nat,iv= .int .i64 i∧i≤s.chans.length∧Hid (Sp w B R0 hs s W)) (fun iv _=>s.chans.length - (intOf iv).toNat)
   case atStart=>exact ⟨0,rfl,by omega,HX⟩
   case round=>
    clear HX;obtain ⟨i,rfl,hi,HX⟩:=hrel;have hi0: (0:Int)≤i:=by omega
    have x1:wr.cell? ⟨w.heap.size,1,none⟩=some (.slice hs.co s.chans.length hs.cc):=HX.out.cell rfl;by_cases hlt:i < s.chans.length;rotate_left
    · have hlti:¬ (i:Int) < s.chans.length:=by omega
      go_wp2_with fail;refine bodyPost_end (v:= .tuple #[]) (by simp [results,Tryz.results15,go_sem]) rfl ?_;exact ⟨rfl,HX.out.bel⟩
    have hlti: (i:Int) < s.chans.length:=by omega
    obtain ⟨xs,hxc,hci⟩:=HS.out.c;obtain ⟨-,x3,qo,qc,ys,hQ,hM⟩:=hci i hlt;rw [hQ] at x3;dsimp only at x3;have HXC:=Lib.hid hxc;have HQR:=Lib.hid hQ;have HX3:=Lib.hid x3;have HMS:=Lib.hid hM;have HQL:=Lib.hid (HL.out.q _ (List.getElem_mem hlt));obtain ⟨qu,hqu⟩:∃l,s.chans[i].queue=l:=⟨_,rfl⟩;rw [hqu] at HQR HX3;have hqe:s.chans[i].queue=qu:=hqu;clear hxc hci hQ x3 hM hqu;have HQL2:Hid (qu.length≤140737488355328∧∀y ∈ qu,y.length≤140737488355328):=Lib.hid (hqe ▸ HQL.out);have HMS2:Hid (∀j (hj:j < qu.length),ys[j]? =some (R0 (kM i j)).v∧IsInts (R0 (kM i j)) qu[j]):=Lib.hid (by
     have h:=HMS.out;subst hqe;exact h)
    have hql:=HQL2.out.1;clear hqe HMS HQL;have HC:Hid (∀W,Sp w B R0 hs s W→∃gc,hs.co=some ⟨gc,0,none⟩∧W.cell? ⟨w.heap.size,1,none⟩=some (.slice (some ⟨gc,0,none⟩) s.chans.length hs.cc)∧W.cell? ⟨gc,i*2+1,none⟩=some (.slice qo qu.length qc)):=Lib.hid fun W k=>by
     obtain ⟨gc,ho,-,-,-,hfix⟩:=k.row HXC.out (by decide) (j:=i*2+1) (by omega);refine ⟨gc,ho,by rw [←ho];exact k.cell rfl,(hfix (by unfold fixB;simp [kC] <;> omega)).trans HX3.out⟩
    go_wp2_with fail;clear x1
    go_loopw [6] (fun iv W=>∃j:Nat,iv= .int .i64 j∧j≤qu.length∧Hid (Sp w B R0 hs s W)) (fun iv _=>qu.length - (intOf iv).toNat)
    case atStart=>exact ⟨0,rfl,by omega,HX⟩
    case round=>
     clear HX;obtain ⟨j,rfl,hj,HX⟩:=hrel;have hj0: (0:Int)≤j:=by omega
     by_cases hjl:j < qu.length;rotate_left
     · obtain ⟨gc,hgc,c1,c3⟩:=HC.out wr HX.out;have hjli:¬ (j:Int) < qu.length:=by omega
       obtain ⟨g,ho,⟨v,hc⟩,hf,hset,-⟩:=HX.out.row HXC.out (by decide) (j:=i*2) (by omega);have eg:g=gc:=by rw [hgc] at ho;injection ho with ho;injection ho with ho;exact ho.symm
       subst eg;have HZ:=Lib.hid (hset (by unfold fixB;simp [kC]) (.int .i64 (-95)));clear hset ho;go_wp2_with fail;go_roundw;case rel=>exact ⟨i+1,by go_num,by omega,HZ⟩
       case measure=>simp [intOf];omega
     have hjli: (j:Int) < qu.length:=by omega
     obtain ⟨gc,hgc,c1,c3⟩:=HC.out wr HX.out;obtain ⟨y0,mo,mc,hM⟩:=HMS2.out j hjl;rw [hM] at y0;dsimp only at y0;have HY0:=Lib.hid y0;have HMR:=Lib.hid hM;have hml:=HQL2.out.2 _ (List.getElem_mem hjl);obtain ⟨me,hme⟩:∃l,qu[j]=l:=⟨_,rfl⟩;rw [hme] at HMR HY0 hml;clear y0 hM hme;have HD:Hid (∀W,Sp w B R0 hs s W→∃gq,qo=some ⟨gq,0,none⟩∧W.cell? ⟨gq,j,none⟩=some (.slice mo me.length mc)):=Lib.hid fun W k=>by
      obtain ⟨gq,ho,-,-,-,hfix⟩:=k.row HQR.out (by decide) (j:=j) (by omega);exact ⟨gq,ho,(hfix rfl).trans HY0.out⟩
     go_wp2_with fail;clear c1 c3
     go_loopw [7] (fun iv W=>∃l:Nat,iv= .int .i64 l∧l≤me.length∧Hid (Sp w B R0 hs s W)) (fun iv _=>me.length - (intOf iv).toNat)
     case atStart=>exact ⟨0,rfl,by omega,HX⟩
     case round=>
      clear HX;obtain ⟨l,rfl,hl,HX⟩:=hrel;have hl0: (0:Int)≤l:=by omega
      obtain ⟨gc,hgc,c1,c3⟩:=HC.out wr HX.out;obtain ⟨gq,hgq,d0⟩:=HD.out wr HX.out;rw [hgq] at c3;by_cases hll:l < me.length
      · have hlli: (l:Int) < me.length:=by omega
        obtain ⟨g,ho,⟨v,hc⟩,hf,hset,-⟩:=HX.out.row HMR.out (by decide) (j:=l) (by omega);have HZ:=Lib.hid (hset rfl (.int .i64 (-96)));rw [ho] at d0;clear hset;go_wp2_with fail;go_roundw;case rel=>exact ⟨l+1,by go_num,by omega,HZ⟩
        case measure=>simp [intOf];omega
      have hlli:¬ (l:Int) < me.length:=by omega
      go_wp2_with fail;go_roundw;case rel=>exact ⟨j+1,by go_num,by omega,HX⟩
      case measure=>simp [intOf];omega
end Go.Proofs.YtnoibjahliafpaaGreatDoor
