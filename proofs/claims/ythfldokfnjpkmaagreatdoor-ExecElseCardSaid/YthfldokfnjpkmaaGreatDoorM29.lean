/- Of another one's list: who takes, and whether anything counts. -/
import Derived.Test.YthfldokfnjpkmaaGreatDoorM22
import Derived.Test.YthfldokfnjpkmaaGreatDoorM28
import Derived.Test.YthfldokfnjpkmaaGreatDoorM25
import Derived.Deep.WholeRow
import Derived.Deep.Onto
import Derived.Laws.Rows
set_option linter.unusedVariables false
set_option linter.unusedSimpArgs false
namespace Go.Proofs.YthfldokfnjpkmaaGreatDoor
open Go.ChangeShapes Go.WideShapes Go.ChangeAt Go.RowKit
def wayV (w:WayD):List Value:=[.int .i64 w.esc,.int .i64 w.way,.int .i64 w.who,.int .i64 w.wesc,.int .i64 w.wway,.int .i64 w.err]
def waysV (l:List WayD):List Value:=l.flatMap wayV
theorem waysV_snoc (l:List WayD) (w:WayD):waysV (l ++ [w])=waysV l ++ wayV w:=by unfold waysV;simp
theorem Ek.low {B b pe:Nat} {w w':World} {h:MH} {hs:SH} {ao:Option Addr} {ac:Nat} {E:EnvD} (k:Ek B w pe h hs ao ac E) (hb:Below b w w') (hp:pe < b) (hB:B≤b):Ek B w' pe h hs ao ac E:=
 ⟨⟨(hb.cell hp).trans k.ck.c0,(hb.cell hp).trans k.ck.c1,(hb.cell hp).trans k.ck.c2,(hb.cell hp).trans k.ck.c3,(hb.cell hp).trans k.ck.c4,(hb.cell hp).trans k.ck.c5,(hb.cell hp).trans k.ck.c6,Nat.le_trans k.ck.le hb.size,Nat.lt_of_lt_of_le k.ck.lt hb.size,k.ck.md.below (hb.mono hB)⟩,
  ⟨(hb.cell hp).trans k.sk.c0,(hb.cell hp).trans k.sk.c1,(hb.cell hp).trans k.sk.c2,(hb.cell hp).trans k.sk.c3,(hb.cell hp).trans k.sk.c4,(hb.cell hp).trans k.sk.c5,Nat.le_trans k.sk.le hb.size,Nat.lt_of_lt_of_le k.sk.lt hb.size,k.sk.sd.below (hb.mono hB)⟩,
  (hb.cell hp).trans k.c13,(hb.cell hp).trans k.c14,(hb.cell hp).trans k.c15,k.able.mono fun _ _ _ hg=>boolAt.below (hb.mono hB) hg⟩
structure TX (ob:Nat) (W0:World) (out:List WayD) (W:World):Prop where
 bel:Below ob W0 W
 box:∃v,W.heap[ob]? =some (.cells #[v] 45 (0,0))∧W.ownsRow (ob+1) 39 6 v out.length (waysV out)
theorem TX.below {ob:Nat} {W0 W W':World} {out:List WayD} (k:TX ob W0 out W) (hb:Below W.heap.size W W') (hl:ob≤W.heap.size):TX ob W0 out W':=by
 obtain ⟨v,h1,h2⟩:=k.box;exact ⟨k.bel.trans (hb.mono hl),v,(hb.block _ (lt_of_block h1)).trans h1,owns_below h2 hb⟩
theorem TX.lt {ob:Nat} {W0 W:World} {out:List WayD} (k:TX ob W0 out W):ob < W.heap.size:=by
 obtain ⟨v,h1,h2⟩:=k.box;exact lt_of_block h1
theorem TX.push {ob:Nat} {W0 W W2:World} {cur:List WayD} {v v1:Value} {x:WayD} {o:Obj} (k:TX ob W0 cur W) (hv:W.heap[ob]? =some (.cells #[v] 45 (0,0))) (hr:W.ownsRow (ob+1) 39 6 v cur.length (waysV cur)) (hown:W2.ownsRow (ob+1) 39 6 v1 (cur.length+1) (waysV cur ++ wayV x)) (hg: (W.alloc o).grownBy W2 v.ownBlock):
 (W2.cell? ⟨ob,0,none⟩=some v∧W2.frozen? ⟨ob,0,none⟩=false)∧TX ob W0 (cur ++ [x]) (W2.setCell ⟨ob,0,none⟩ v1):=by
 have hlt:=lt_of_block hv;have h2:W2.heap[ob]? =some (.cells #[v] 45 (0,0)):=((hg.block ob (by simp;omega) (fun e=>by have:=(hr.lt _ e.symm).1;omega)).trans ((ball o).block _ hlt)).trans hv;refine ⟨⟨(cell_of_row _ _ 0 _ _ _ h2).trans rfl,frozen_of_row _ _ _ _ _ h2⟩, ?_,v1, ?_, ?_⟩
 · have hb:Below ob W0 W2:=(k.bel.alloc (by omega) o).grown hg (by simp;omega) (fun q hq=>by have:=(hr.lt q hq).1;omega);exact hb.setCell (show ob≤ob from Nat.le_refl _) _
 · rw [heap_setCell_same _ _ _ _ _ _ h2];rfl
 · rw [waysV_snoc,List.length_append,List.length_singleton];exact owns_set hown _ _ (fun e=>by have:=(hown.lt ob e).1;omega)
structure TB (B ob pe nb mb pb:Nat) (h:MH) (hs:SH) (ao:Option Addr) (ac:Nat) (E:EnvD) (n:Int) (msg:List Int) (uo:Option Addr) (uc:Nat) (W0:World):Prop where
 ek:Ek B W0 pe h hs ao ac E
 ok:Ok E
 nbx:W0.cell? ⟨nb,0,none⟩=some (.int .i64 n)
 mbx:W0.cell? ⟨mb,0,none⟩=some (.slice uo msg.length uc)
 pbx:W0.cell? ⟨pb,0,none⟩=some (.int .i64 E.pid)
 lt:nb < ob∧mb < ob∧pb < ob∧pe < ob∧B≤ob
 msg:Row ob uo 1 (intAt W0) msg
theorem takeL_7 {E:EnvD} {n:Int} {msg:List Int} {esc:Int} {i:Nat} {t:TransD} {r:List TransD} (h:t.s.kind=7):takeL E n msg esc i (t :: r)= ((takeL E n msg esc (i+1) r).1,true):=by rw [takeL,if_pos h]
theorem takeL_y {E:EnvD} {n:Int} {msg:List Int} {esc:Int} {i:Nat} {t:TransD} {r:List TransD} (h:t.s.kind≠7) (h2:xTakesB E t.s n msg=true):takeL E n msg esc i (t :: r)= (⟨0,0,E.pid,esc,i,0⟩ :: (takeL E n msg esc (i+1) r).1,(takeL E n msg esc (i+1) r).2):=by rw [takeL,if_neg h,if_pos h2]
theorem takeL_n {E:EnvD} {n:Int} {msg:List Int} {esc:Int} {i:Nat} {t:TransD} {r:List TransD} (h:t.s.kind≠7) (h2:xTakesB E t.s n msg=false):takeL E n msg esc i (t :: r)= ((takeL E n msg esc (i+1) r).1,(canF E t.s).1 || (takeL E n msg esc (i+1) r).2):=by rw [takeL,if_neg h,if_neg (by simp [h2])]
set_option maxRecDepth 100000 in
set_option maxHeartbeats 4000000 in
theorem takerOneC {B ob pe nb mb pb lc uc:Nat} {h:MH} {hs:SH} {ao lo uo:Option Addr} {ac:Nat} {E:EnvD} {n:Int} {msg:List Int} {l:List TransD} {out:List WayD} {W0:World} (esc:Int) (W:World) (hT:TB B ob pe nb mb pb h hs ao ac E n msg uo uc W0) (hX:TX ob W0 out W) (hl:Row B lo 9 (transAt B W0) l) (hF:∀t ∈ l,StF E.m t.s) (hn1:l.length≤4096) (hn2:out.length≤1000000):
 Calls Tryz.prog 158 #[.int .i64 esc,.slice lo l.length lc,.pointer (some ⟨pe,0,none⟩),.pointer (some ⟨nb,0,none⟩),.pointer (some ⟨mb,0,none⟩),.pointer (some ⟨ob,0,none⟩),.pointer (some ⟨pb,0,none⟩)] W fun e W'=>e= .returned (.bool ((takeL E n msg esc 0 l).2 || decide (0 < (out ++ (takeL E n msg esc 0 l).1).length)))∧TX ob W0 (out ++ (takeL E n msg esc 0 l).1) W':=by
 have HT:=Lib.hid hT;have HR:=Lib.hid hl;have HF:=Lib.hid hF;obtain ⟨⟨F1,F2⟩,hfull⟩:∃r,takeL E n msg esc 0 l=r:=⟨_,rfl⟩;have HFU:=Lib.hid hfull;have HX0:=Lib.hid hX;rw [hfull];simp only;clear hT hl hF hX hfull;go_enter Tryz.func158,Tryz.ntmps158;go_wp2_with fail
 go_loopw [10,17] (fun cv iv W'=>∃ (i:Nat) (cnt:Bool) (cur:List WayD),iv= .int .i64 i∧cv= .bool cnt∧i≤l.length∧Hid (TX ob W0 cur W')∧Hid (cur ++ (takeL E n msg esc i (l.drop i)).1=out ++ F1∧ (cnt || (takeL E n msg esc i (l.drop i)).2)=F2∧cur.length≤out.length+i)) (fun _ iv _=>l.length - (intOf iv).toNat)
 case atStart=>exact ⟨0,false,out,rfl,rfl,by omega,HX0,Lib.hid ⟨by rw [List.drop_zero,HFU.out],by rw [List.drop_zero,HFU.out];rfl,by omega⟩⟩
 case round=>
  clear HX0;obtain ⟨i,cnt,cur,rfl,rfl,hi,HX,HC⟩:=hrel;have hi0: (0:Int)≤i:=by omega
  by_cases hlt:i < l.length;rotate_left
  · have hlti:¬ (i:Int) < l.length:=by omega
    obtain ⟨e1,e2,-⟩:=HC.out;have hd:l.drop i= []:=List.drop_eq_nil_of_le (by omega);rw [hd] at e1 e2;have HE1:Hid (cur=out ++ F1):=Lib.hid (by simpa [takeL] using e1);have HE2:Hid (cnt=F2):=Lib.hid (by simpa [takeL] using e2);obtain ⟨v,hbx,hrow⟩:=HX.out.box;have c0:wr.cell? ⟨ob,0,none⟩=some v:=(cell_of_row _ _ 0 _ _ _ hbx).trans rfl;obtain ⟨o1,q1,rfl⟩:=owns_head hrow;clear e1 e2 hd hbx hrow;have HB:Hid (decide (0 < cur.length)=decide (0 < out.length+F1.length)):=Lib.hid (by rw [HE1.out,List.length_append]);have HXF:Hid (TX ob W0 (out ++ F1) wr):=Lib.hid (HE1.out ▸ HX.out);cases cnt
    · go_wp2_with fail;go_ret;exact ⟨by rw [←HE2.out,Bool.false_or];exact congrArg (fun b=>Ending.returned (Value.bool b)) HB.out,HXF.out⟩
    · go_wp2_with fail;go_ret;exact ⟨by rw [←HE2.out,Bool.true_or];rfl,HXF.out⟩
  have hlti: (i:Int) < l.length:=by omega
  obtain ⟨lpn,lpm,lpp,lpe,lpB⟩:=HT.out.lt;have HEK:=Lib.hid (HT.out.ek.low HX.out.bel lpe lpB);obtain ⟨g,off,elo,hg,hta⟩:=(HR.out.mono fun _ _ _ hgg=>transAt.below (HX.out.bel.mono lpB) hgg).cell hlt;obtain ⟨t,htt⟩:∃t,l[i]=t:=⟨_,rfl⟩;rw [htt] at hta;have HST:=Lib.hid hta.s;have HSF:=Lib.hid (HF.out t (htt ▸ List.getElem_mem hlt));have hdr:l.drop i=t :: l.drop (i+1):=by rw [List.drop_eq_getElem_cons hlt,htt]
  have HC2:=HC;have HCE:=HC.out;rw [hdr] at HCE;have HCD:=Lib.hid HCE;have x0:=hta.s.c0;have hll:=HR.out.1;clear HCE HC2 HC hdr hta htt;subst elo;have HNX:=Lib.hid (HX.out.lt);by_cases k7:t.s.kind=7
  · have hq: (t.s.kind == 7)=true:=by simpa using k7
    have HCN:Hid (cur ++ (takeL E n msg esc (i+1) (l.drop (i+1))).1=out ++ F1∧ (true || (takeL E n msg esc (i+1) (l.drop (i+1))).2)=F2∧cur.length≤out.length+ (i+1)):=Lib.hid (by
     obtain ⟨a1,a2,a3⟩:=HCD.out;rw [takeL_7 k7] at a1 a2;refine ⟨a1, ?_,by omega⟩;rw [Bool.true_or,←a2,Bool.or_true])
    clear k7;go_wp2_with fail;go_roundw;case rel=>exact ⟨i+1,true,cur,by go_num,rfl,by omega,HX,HCN⟩
    case measure=>simp [intOf];omega
  have hq: (t.s.kind == 7)=false:=by simpa using k7
  have HTK:=Lib.hid (takesC (uc:=uc) n wr HEK.out HT.out.ok HST.out hg HSF.out (Nat.le_of_lt HNX.out) (HT.out.msg.mono fun _ _ _ hgg=>intAt.below HX.out.bel hgg));obtain ⟨tk,htk⟩:∃b,xTakesB E t.s n msg=b:=⟨_,rfl⟩;rw [htk] at HTK;have HTE:=Lib.hid htk;have HK7:=Lib.hid k7;have y1:wr.cell? ⟨nb,0,none⟩=some (.int .i64 n):=(HX.out.bel.cell (p:=⟨nb,0,none⟩) lpn).trans HT.out.nbx;have y2:wr.cell? ⟨mb,0,none⟩=some (.slice uo msg.length uc):=(HX.out.bel.cell (p:=⟨mb,0,none⟩) lpm).trans HT.out.mbx;clear htk k7;go_wp2_with fail;refine HTK.out.mono ?_;rintro e W1 ⟨rfl,hb1⟩;have HX1:=Lib.hid (HX.out.below hb1 (Nat.le_of_lt HNX.out));have HEK1:=Lib.hid (HEK.out.below hb1);have HST1:Hid (stmtAt B W1 g (off+i*9) t.s):=Lib.hid (stmtAt.below (hb1.mono HEK.out.leW) hg HST.out);clear hb1 HTK y1 y2 x0 hq;cases tk
  · have HCC:=Lib.hid (canBeDoneC W1 HEK1.out HT.out.ok HST1.out hg HSF.out HK7.out);obtain ⟨⟨c1,e1⟩,hcf⟩:∃r,canF E t.s=r:=⟨_,rfl⟩;rw [hcf] at HCC;simp only at HCC;have HCF:=Lib.hid hcf;clear hcf;go_wp2_with fail;refine HCC.out.mono ?_;rintro e W2 ⟨rfl,hb2⟩;have HX2:=Lib.hid (HX1.out.below hb2 (Nat.le_of_lt HX1.out.lt));clear hb2 HCC;have HCN:Hid (cur ++ (takeL E n msg esc (i+1) (l.drop (i+1))).1=out ++ F1∧ ((cnt || c1) || (takeL E n msg esc (i+1) (l.drop (i+1))).2)=F2∧cur.length≤out.length+ (i+1)):=Lib.hid (by
     obtain ⟨a1,a2,a3⟩:=HCD.out;rw [takeL_n HK7.out HTE.out,HCF.out] at a1 a2;exact ⟨a1,by rw [←a2,Bool.or_assoc],by omega⟩)
    cases c1
    · have HCN2:=Lib.hid (by have:=HCN.out;rw [Bool.or_false] at this;exact this);clear HCN;go_wp2_with fail;go_roundw;case rel=>exact ⟨i+1,cnt,cur,by go_num,rfl,by omega,HX2,HCN2⟩
      case measure=>simp [intOf];omega
    · have HCN2:=Lib.hid (by have:=HCN.out;rw [Bool.or_true] at this;exact this);clear HCN;go_wp2_with fail;go_roundw;case rel=>exact ⟨i+1,true,cur,by go_num,rfl,by omega,HX2,HCN2⟩
      case measure=>simp [intOf];omega
  have HCN:Hid ((cur ++ [⟨0,0,E.pid,esc,i,0⟩]) ++ (takeL E n msg esc (i+1) (l.drop (i+1))).1=out ++ F1∧ (cnt || (takeL E n msg esc (i+1) (l.drop (i+1))).2)=F2∧ (cur ++ [(⟨0,0,E.pid,esc,i,0⟩:WayD)]).length≤out.length+ (i+1)∧cur.length≤out.length+i):=Lib.hid (by
   obtain ⟨a1,a2,a3⟩:=HCD.out;rw [takeL_y HK7.out HTE.out] at a1 a2;exact ⟨by rw [←a1];simp,a2,by simp;omega,a3⟩)
  obtain ⟨v,hbx,hrow⟩:=HX1.out.box;have HBX:=Lib.hid (And.intro hbx hrow);have y3:W1.cell? ⟨pb,0,none⟩=some (.int .i64 E.pid):=(HX1.out.bel.cell (p:=⟨pb,0,none⟩) lpp).trans HT.out.pbx;have y4:W1.cell? ⟨ob,0,none⟩=some v:=(cell_of_row _ _ 0 _ _ _ hbx).trans rfl;obtain ⟨iw,hi1,hi2,hi3,hi4⟩:=info_parts (show (Tryz.prog.info? 39).map (fun i=>(i.zero,i.size,i.bytes))=some (some (.agg #[.int .i64 0,.int .i64 0,.int .i64 0,.int .i64 0,.int .i64 0,.int .i64 0]),6,48) by kernel_rfl);have HI:=Lib.hid (And.intro hi1 (And.intro hi2 (And.intro hi3 hi4)));have hcl:=HCN.out.2.2.2;clear hi1 hi2 hi3 hi4 hbx hrow;go_wp2_with (at_builtin;refine wpList_append_own _ rfl _ _ 45 rfl (ob+1) 39 iw (.agg #[.int .i64 0,.int .i64 0,.int .i64 0,.int .i64 0,.int .i64 0,.int .i64 0]) 6 48 Tryz.underlying45 HI.out.1 HI.out.2.1 HI.out.2.2.1 HI.out.2.2.2 rfl (by decide) v cur.length (waysV cur) rfl (HBX.out.2.alloc _) ⟨W1.heap.size,0,none⟩ 1 1 (wayV ⟨0,0,E.pid,esc,i,0⟩) rfl rfl (arr_at _ _ _ _ rfl) (by simp [wayV,Value.oneCell']) (by unfold maxLen;omega) (by omega) (by have:=HX1.out.lt;simp;omega) ?_);intro v1 W2 hown hgrow _;obtain ⟨o1,q1,rfl⟩:=owns_head hown;obtain ⟨⟨y5,y6⟩,hx2⟩:=HX1.out.push HBX.out.1 HBX.out.2 hown hgrow;have HX2:=Lib.hid hx2;have HCN2:=Lib.hid (And.intro HCN.out.1 (And.intro HCN.out.2.1 HCN.out.2.2.1));clear hown hgrow hx2 y3 y4 HCN HBX hcl;go_wp2_with fail;go_roundw;case rel=>exact ⟨i+1,cnt,_,by go_num,rfl,by omega,HX2,HCN2⟩
  case measure=>simp [intOf];omega
end Go.Proofs.YthfldokfnjpkmaaGreatDoor
namespace Go.Proofs.YthfldokfnjpkmaaGreatDoor
theorem GM.stmtE {m:ModelD} (h:GM m) {i:Nat} {p:ProcD} (hp:m.procs[i]? =some p) {l:LocD} (hl:l ∈ p.locs) {e:List TransD} (he:e ∈ l.out :: l.esc) {t:TransD} (ht:t ∈ e):stmtB m t.s=true:=by
 have h1:=h.ways i p hp;unfold dprocB at h1;simp only [Bool.and_eq_true] at h1;have h2:=List.all_eq_true.1 h1.1 l hl;unfold dlocB at h2;have h3:=List.all_eq_true.1 h2 e he;have h4:=List.all_eq_true.1 h3 t ht;unfold dwayB at h4;simp only [Bool.and_eq_true] at h4;exact h4.1.1.1.1
theorem mem_sum_le {α:Type} {f:α→Nat}:∀ {l:List α} {x:α},x ∈ l→f x≤ (l.map f).sum
 | [],_,h=>by cases h
 | y :: r,x,h=>by
   rw [List.map_cons,List.sum_cons];rcases List.mem_cons.1 h with rfl | h
   · omega
   · have:=mem_sum_le (f:=f) h;omega
theorem GM.size {m:ModelD} (h:GM m) {i:Nat} {p:ProcD} (hp:m.procs[i]? =some p) {l:LocD} (hl:l ∈ p.locs):l.out.length≤1024∧∀e ∈ l.esc,e.length≤1024:=by
 have h1:=h.procs i p hp;unfold procB placesB at h1;simp only [Bool.and_eq_true,decide_eq_true_eq] at h1;have h2:=h1.1.2.2;unfold manyP at h2;have h3:=mem_sum_le (f:=manyL) hl;unfold manyL at h2 h3;refine ⟨by omega,fun e he=> ?_⟩;have h4:=mem_sum_le (f:=List.length) he;omega
theorem GM.prov {m:ModelD} (h:GM m) {i:Nat} {p:ProcD} (hp:m.procs[i]? =some p): -1≤p.provided∧p.provided < m.exprs.length:=by
 have h1:=h.procs i p hp;unfold procB frameB frameTailB at h1;simp only [Bool.and_eq_true,decide_eq_true_eq] at h1;obtain ⟨⟨⟨_,h2⟩,_⟩,_⟩:=h1;omega
structure PF (E:EnvD) (k tk kl:Nat) (p:ProcessD) (t:ProcD) (l:LocD):Prop where
 pid:E.pid=k
 hp:E.s.procs[k]? =some p
 etk:p.type=tk
 ht:E.m.procs[tk]? =some t
 ekl:p.loc=kl
 hl:t.locs[kl]? =some l
 e1:procE E=p
 e2:typE E=t
 e3:placeE E=l
 few:E.s.procs.length≤16
 out:∀x ∈ l.out,StF E.m x.s
 esc:∀e ∈ l.esc,∀x ∈ e,StF E.m x.s
 n1:l.out.length≤1024
 n2:∀e ∈ l.esc,e.length≤1024
 n3:l.esc.length≤8
 prov: -1≤t.provided∧t.provided < E.m.exprs.length
theorem PF.of {E:EnvD} (hok:Ok E) (h0:0≤E.pid):∃k tk kl p t l,PF E k tk kl p t l:=by
 have hpid:=hok.pid;have hgm:=GM.of hok.good;obtain ⟨k,hk⟩:∃k:Nat,E.pid=k:=⟨E.pid.toNat,by omega⟩;have hkl:k < E.s.procs.length:=by omega
 obtain ⟨p,hp⟩:∃p,E.s.procs[k]? =some p:=⟨_,List.getElem?_eq_getElem hkl⟩;have h1:=hok.may;have hfew:E.s.procs.length≤16:=by
  have h:=h1;unfold mayB mayHeadB at h;simp only [Bool.and_eq_true,decide_eq_true_eq] at h;exact h.1.1.1.2.2
 unfold mayB at h1;simp only [Bool.and_eq_true] at h1;have h2:=List.all_eq_true.1 h1.1.2 p (List.mem_of_getElem? hp);unfold procMayB procHeadB procFB at h2;simp only [Bool.and_eq_true,decide_eq_true_eq] at h2;obtain ⟨⟨h4,h5,_⟩,h6⟩:=h2;split at h6
 · rename_i t ht
   simp only [Bool.and_eq_true,decide_eq_true_eq] at h6;obtain ⟨⟨h7,h8,_⟩,_⟩:=h6;have hll:p.loc.toNat < t.locs.length:=by omega
   have hml:t.locs[p.loc.toNat] ∈ t.locs:=List.getElem_mem hll;have e1:procE E=p:=by unfold procE;rw [hk,Int.toNat_natCast,hp];rfl
   have e2:typE E=t:=by unfold typE;rw [e1,ht];rfl
   have e3:placeE E=t.locs[p.loc.toNat]:=by unfold placeE;rw [e2,e1,List.getElem?_eq_getElem hll];rfl
   have hsz:=hgm.size ht hml;exact ⟨k,p.type.toNat,p.loc.toNat,p,t,_,⟨hk,hp,by omega,ht,by omega,List.getElem?_eq_getElem hll,e1,e2,e3,hfew,fun x hx=>st_facts (hgm.stmtE ht hml (List.mem_cons_self ..) hx),fun e he x hx=>st_facts (hgm.stmtE ht hml (List.mem_cons_of_mem _ he) hx),hsz.1,hsz.2,hgm.esc ht hml,hgm.prov ht⟩⟩
 · cases h6
end Go.Proofs.YthfldokfnjpkmaaGreatDoor
namespace Go.Proofs.YthfldokfnjpkmaaGreatDoor
open Go.ChangeShapes Go.WideShapes Go.ChangeAt Go.RowKit
structure LH (B b pe N:Nat) (caps:Array Value) (W0:World) (l:LocD) (P:Nat→World→Prop) (Q:World→Prop):Prop where
 bel:∀i W,P i W→Below b W0 W
 lt:pe < b∧B≤b
 run:∀ (args:Array Value) (W:World),(callFunc N args).run Tryz.prog W= .ok (.enter N args) W
 keep:∀i W W',P i W→Below W.heap.size W W'→P i W'
 one:∀ (i:Nat) (e:List TransD) (lo:Option Addr) (lc:Nat) (W:World),l.esc[i]? =some e→P i W→Row B lo 9 (transAt B W0) e→Calls Tryz.prog N (#[.int .i64 i,.slice lo e.length lc] ++ caps) W fun x W'=>∃r,x= .returned (.bool r)∧ (r=true→Q W')∧ (r=false→P (i+1) W')
 last:∀ (lo:Option Addr) (lc:Nat) (W:World),P l.esc.length W→Row B lo 9 (transAt B W0) l.out→Calls Tryz.prog N (#[.int .i64 (-1),.slice lo l.out.length lc] ++ caps) W fun x W'=>∃r,x= .returned (.bool r)∧Q W'
set_option maxRecDepth 100000 in
set_option maxHeartbeats 4000000 in
theorem listsC {B b pe N k tk kl:Nat} {caps:Array Value} {h:MH} {hs:SH} {ao:Option Addr} {ac:Nat} {E:EnvD} {p:ProcessD} {t:ProcD} {l:LocD} {W0:World} {P:Nat→World→Prop} {Q:World→Prop} (W:World) (hk:Ek B W0 pe h hs ao ac E) (hf:PF E k tk kl p t l) (hl:LH B b pe N caps W0 l P Q) (h0:P 0 W):
 Calls Tryz.prog 41 #[.pointer (some ⟨pe,0,none⟩),.func (.func N) #[] caps] W fun e W'=>e= .returned (.tuple #[])∧Q W':=by
 obtain ⟨g,off,ho,hg,hpa⟩:=hk.sk.sd.procs.get hf.hp;obtain ⟨g2,off2,ho2,hg2,hta⟩:=hk.ck.md.procs.get hf.ht;obtain ⟨o3,c3,hl1,hl2⟩:=hta.locs;obtain ⟨g3,off3,rfl,hg3,hla⟩:=hl2.get hf.hl;obtain ⟨oo,oc,ho1,hor⟩:=hla.out;obtain ⟨eo,ec,he1,her⟩:=hla.esc;have HQ:Hid (∀i W,P i W→W.cell? ⟨g,off+k*4+1,none⟩=some (.int .i64 kl)∧W.cell? ⟨g2,off2+tk*10+4,none⟩=some (.slice (some ⟨g3,off3,none⟩) t.locs.length c3)∧W.cell? ⟨g3,off3+kl*7,none⟩=some (.slice oo l.out.length oc)∧W.cell? ⟨g3,off3+kl*7+1,none⟩=some (.slice eo l.esc.length ec)):=Lib.hid fun i W hP=>by
  have hb:=(hl.bel i W hP).mono hl.lt.2;exact ⟨(hb.cell (p:=⟨g,off+k*4+1,none⟩) hg).trans (by rw [←hf.ekl];exact hpa.c1),(hb.cell (p:=⟨g2,off2+tk*10+4,none⟩) hg2).trans hl1,(hb.cell (p:=⟨g3,off3+kl*7,none⟩) hg3).trans ho1,(hb.cell (p:=⟨g3,off3+kl*7+1,none⟩) hg3).trans he1⟩
 have HES:Hid (Row B eo 1 (escAt B W0) l.esc):=Lib.hid her;have HOR:=Lib.hid hor;have HL:=Lib.hid hl;have HF:=Lib.hid hf;have HP:=Lib.hid (processC W (hk.low (hl.bel 0 W h0) hl.lt.1 hl.lt.2) hf.pid hf.hp hf.etk hf.ht ho ho2);have HKP:=Lib.hid h0;have hkl: (kl:Int) < t.locs.length:=by have:=(List.getElem?_eq_some_iff.1 hf.hl).1;omega
 have hkz: (0:Int)≤kl:=by omega
 have htl:=hl2.1;have hel:=her.1;have hn3:=hf.n3;have hrun:=hl.run;clear hk hf hl h0 hpa hta hl1 hl2 hla ho1 hor he1 her;go_enter Tryz.func41,Tryz.ntmps41;go_wp2_with fail;refine HP.out.mono ?_;rintro e W1 ⟨rfl,hb1⟩;have HP1:=Lib.hid (HL.out.keep 0 W W1 HKP.out hb1);clear hb1 HP HKP;go_upto_region 1 with fail
 obtain ⟨x1,x2,x3,x4⟩:=HQ.out 0 W1 HP1.out;go_quiet (fail);have HP2:=Lib.hid (HL.out.keep 0 W1 (W1.drewN nq) HP1.out (bdrew (Below.refl _ _) nq));generalize W1.drewN nq=W2 at HP2 ⊢;clear x1 x2 x3 x4 HP1;obtain ⟨x1,x2,x3,x4⟩:=HQ.out 0 W2 HP2.out;go_wp2_with fail;clear x1 x2 x3 x4
 go_loopw [28] (fun iv W'=>∃i:Nat,iv= .int .i64 i∧i≤l.esc.length∧Hid (P i W')) (fun iv _=>l.esc.length - (intOf iv).toNat)
 case atStart=>exact ⟨0,rfl,by omega,HP2⟩
 case round=>
  clear HP2;obtain ⟨i,rfl,hi,HI⟩:=hrel;have hi0: (0:Int)≤i:=by omega
  obtain ⟨x1,x2,x3,x4⟩:=HQ.out i wr HI.out;by_cases hlt:i < l.esc.length
  · have hlti: (i:Int) < l.esc.length:=by omega
    obtain ⟨g4,off4,rfl,hg4,hea⟩:=HES.out.cell hlt;obtain ⟨e,hee⟩:∃e,l.esc[i]=e:=⟨_,rfl⟩;rw [hee] at hea;obtain ⟨lo,lc,hr1,hr2⟩:=hea;rw [Nat.mul_one] at hr1;have y1:wr.cell? ⟨g4,off4+i,none⟩=some (.slice lo e.length lc):=(((HL.out.bel i wr HI.out).mono HL.out.lt.2).cell (p:=⟨g4,off4+i,none⟩) hg4).trans hr1;have HC:=Lib.hid (HL.out.one i e lo lc wr (by rw [List.getElem?_eq_getElem hlt,hee]) HI.out hr2);clear hr1 hr2 hee;go_wp2_with fail;refine HC.out.mono ?_;rintro x W3 ⟨r,rfl,hr1,hr2⟩;clear HC x1 x2 x3 x4 y1;cases r
    · have HP3:=Lib.hid (hr2 rfl);clear hr1 hr2;go_wp2_with fail;go_roundw;case rel=>exact ⟨i+1,by go_num,by omega,HP3⟩
      case measure=>simp [intOf];omega
    · have HQ3:=Lib.hid (hr1 rfl);clear hr1 hr2;go_wp2_with fail;refine bodyPost_ret (v:= .tuple #[]) (by simp [results,Tryz.results41,go_sem]) rfl ?_;exact ⟨rfl,HQ3.out⟩
  · have hlti:¬ (i:Int) < l.esc.length:=by omega
    have hie:i=l.esc.length:=by omega
    subst hie;have HC:=Lib.hid (HL.out.last oo oc wr HI.out HOR.out);go_wp2_with fail;refine HC.out.mono ?_;rintro x W3 ⟨r,rfl,hr⟩;have HQ3:=Lib.hid hr;clear HC hr x1 x2 x3 x4;go_wp2_with fail;go_end0;exact ⟨rfl,HQ3.out⟩
end Go.Proofs.YthfldokfnjpkmaaGreatDoor
namespace Go.Proofs.YthfldokfnjpkmaaGreatDoor
open Go.ChangeShapes Go.WideShapes Go.ChangeAt Go.RowKit
theorem xC_one (h:MH) (hs:SH) (ao:Option Addr) (ac:Nat) (E:EnvD): (eCells h hs ao ac E).all (·.oneCell')=true:=by simp [eCells,Value.oneCell']
def XWaysP (L:List WayD) (w:World) (e:Ending) (w':World):Prop:=∃v,e= .returned v∧w'.ownsRow w.heap.size 39 6 v L.length (waysV L)∧Below w.heap.size w w'
structure T5 (w:World) (pid n:Int) (mv:Value) (CF:Array Value) (pf:Nat) (W:World):Prop where
 bel:Below w.heap.size w W
 n1:W.cell? ⟨w.heap.size,0,none⟩=some (.int .i64 pid)
 n2:W.cell? ⟨w.heap.size+1,0,none⟩=some (.int .i64 n)
 n3:W.cell? ⟨w.heap.size+1+1,0,none⟩=some mv
 box:W.heap[pf]? =some (.cells CF 36 (0,0))
 pf:pf=w.heap.size+3
theorem T5.make {w:World} {pid n:Int} {mv:Value} {CS:Array Value} {T1 T2 T3:TypeId} (h:CS.size=16):
 let W:=((w.alloc (.cells #[.int .i64 pid] T1)).alloc (.cells #[.int .i64 n] T2)).alloc (.cells #[mv] T3)
 (W.alloc (.cells CS 36)).cell? ⟨w.heap.size,0,none⟩=some (.int .i64 pid)∧ (∃u,(W.alloc (.cells CS 36)).cell? ⟨w.heap.size+1+1+1,13,none⟩=some u)∧ (W.alloc (.cells CS 36)).frozen? ⟨w.heap.size+1+1+1,13,none⟩=false∧T5 w pid n mv (CS.set! 13 (.int .i64 pid)) (w.heap.size+3) ((W.alloc (.cells CS 36)).setCell ⟨w.heap.size+1+1+1,13,none⟩ (.int .i64 pid)):=by
 intro W;have s1: (w.alloc (.cells #[.int .i64 pid] T1)).heap.size=w.heap.size+1:=by simp
 have s2: ((w.alloc (.cells #[.int .i64 pid] T1)).alloc (.cells #[.int .i64 n] T2)).heap.size=w.heap.size+1+1:=by simp
 have s3:W.heap.size=w.heap.size+1+1+1:=by simp [W]
 have a1:=heap_alloc_new w (.cells #[.int .i64 pid] T1);have a2:=heap_alloc_new (w.alloc (.cells #[.int .i64 pid] T1)) (.cells #[.int .i64 n] T2);have a3:=heap_alloc_new ((w.alloc (.cells #[.int .i64 pid] T1)).alloc (.cells #[.int .i64 n] T2)) (.cells #[mv] T3);have a4:=heap_alloc_new W (.cells CS 36);have b2:=ball (w:=w.alloc (.cells #[.int .i64 pid] T1)) (.cells #[.int .i64 n] T2);have b3:=ball (w:=(w.alloc (.cells #[.int .i64 pid] T1)).alloc (.cells #[.int .i64 n] T2)) (.cells #[mv] T3);have b4:=ball (w:=W) (.cells CS 36);rw [s1] at a2 b2;rw [s2] at a3 b3;rw [s3] at a4 b4;have c2:=(b4.block _ (by omega)).trans ((b3.block _ (by omega)).trans a2);have c1:=(b4.block _ (by omega)).trans ((b3.block _ (by omega)).trans ((b2.block _ (by omega)).trans a1));have c3:=(b4.block _ (by omega)).trans a3;have hne:∀q,q < w.heap.size+1+1+1→ ((W.alloc (.cells CS 36)).setCell ⟨w.heap.size+1+1+1,13,none⟩ (.int .i64 pid)).heap[q]? = (W.alloc (.cells CS 36)).heap[q]? :=fun q hq=>heap_setCell_other _ _ _ _ (by show q≠w.heap.size+1+1+1;omega)
 have hB:Below w.heap.size w (W.alloc (.cells CS 36)):=(((ball _).trans (b2.mono (by omega))).trans (b3.mono (by omega))).trans (b4.mono (by omega));refine ⟨(cell_of_row _ _ _ _ _ _ c1).trans rfl,⟨CS[13]'(by omega),(cell_of_row _ _ _ _ _ _ a4).trans (by rw [Array.getElem?_eq_getElem])⟩,frozen_of_row _ _ _ _ _ a4,hB.setCell (by show _≤w.heap.size+1+1+1;omega) _, ?_, ?_, ?_, ?_,rfl⟩
 · exact (cell_of_row _ _ _ _ _ _ ((hne _ (by omega)).trans c1)).trans rfl
 · exact (cell_of_row _ _ _ _ _ _ ((hne _ (by omega)).trans c2)).trans rfl
 · exact (cell_of_row _ _ _ _ _ _ ((hne _ (by omega)).trans c3)).trans rfl
 · exact (heap_setCell_same _ _ _ _ _ _ a4).trans rfl
theorem run_takers1 (args:Array Value) (w:World): (callFunc 158 args).run Tryz.prog w= .ok (.enter 158 args) w:=by
 have h1: (Tryz.f158.name == "runtime.NumGoroutine")=false:=by kernel_rfl
 have h2:Tryz.f158.body.isNone=false:=by kernel_rfl
 simp only [beq_eq_false_iff_ne,ne_eq] at h1;have h3:¬Tryz.f158.body=none:=by
  intro e;rw [e] at h2;cases h2
 simp [callFunc,go_sem,Tryz.func158,h1,h3]
def oneT (F:EnvD) (n:Int) (msg:List Int) (esc:Int) (l:List TransD):List WayD × Bool:=((takeL F n msg esc 0 l).1,(takeL F n msg esc 0 l).2 || decide (0 < (takeL F n msg esc 0 l).1.length))
theorem TX.new (W:World):TX W.heap.size W [] (W.alloc (.cells #[.slice none 0 0] 45)):=⟨ball _,.slice none 0 0,heap_alloc_new _ _,World.ownsRow_nil _ _ _ _⟩
theorem takersLists {B pe nb mb pb k tk kl:Nat} {h:MH} {hs:SH} {ao uo:Option Addr} {ac uc:Nat} {F:EnvD} {n:Int} {msg:List Int} {p:ProcessD} {t:ProcD} {l:LocD} (W:World) (hk:Ek B W pe h hs ao ac F) (hok:Ok F) (hf:PF F k tk kl p t l) (h1:W.cell? ⟨nb,0,none⟩=some (.int .i64 n)) (h2:W.cell? ⟨mb,0,none⟩=some (.slice uo msg.length uc)) (h3:W.cell? ⟨pb,0,none⟩=some (.int .i64 F.pid)) (hlt:nb < W.heap.size∧mb < W.heap.size∧pb < W.heap.size) (hm:Row W.heap.size uo 1 (intAt W) msg):
 Calls Tryz.prog 41 #[.pointer (some ⟨pe,0,none⟩),.func (.func 158) #[] #[.pointer (some ⟨pe,0,none⟩),.pointer (some ⟨nb,0,none⟩),.pointer (some ⟨mb,0,none⟩),.pointer (some ⟨W.heap.size,0,none⟩),.pointer (some ⟨pb,0,none⟩)]] (W.alloc (.cells #[.slice none 0 0] 45)) fun e W'=>e= .returned (.tuple #[])∧TX W.heap.size W (listsF (oneT F n msg) 0 l.esc l.out) W':=by
 have hT:TB B W.heap.size pe nb mb pb h hs ao ac F n msg uo uc W:=⟨hk,hok,h1,h2,h3,⟨hlt.1,hlt.2.1,hlt.2.2,hk.ck.lt,hk.leW⟩,hm⟩;obtain ⟨R,hR⟩:∃R,listsF (oneT F n msg) 0 l.esc l.out=R:=⟨_,rfl⟩;rw [hR];refine listsC (b:=W.heap.size) (W0:=W) (P:=fun i W'=>TX W.heap.size W [] W'∧listsF (oneT F n msg) i (l.esc.drop i) l.out=R) (Q:=fun W'=>TX W.heap.size W R W') _ hk hf ⟨fun i W' h=>h.1.bel,⟨hk.ck.lt,hk.leW⟩,run_takers1,fun i W1 W2 h hb=>⟨h.1.below hb (Nat.le_of_lt h.1.lt),h.2⟩, ?_, ?_⟩ ⟨TX.new W,hR⟩
 · intro i e lo lc W1 he hP hr;have hlt:=(List.getElem?_eq_some_iff.1 he).1;have hee:=(List.getElem?_eq_some_iff.1 he).2;have hme:e ∈ l.esc:=List.mem_of_getElem? he;have hd:l.esc.drop i=e :: l.esc.drop (i+1):=by rw [List.drop_eq_getElem_cons hlt,hee]
   have hC:=takerOneC (out:=[]) (lc:=lc) (i:Int) W1 hT hP.1 hr (hf.esc e hme) (by have:=hf.n2 e hme;omega) (by simp);refine Calls.mono hC ?_;rintro x W2 ⟨rfl,hx⟩;have h5:=hP.2;rw [hd] at h5;refine ⟨_,rfl,fun hr=> ?_,fun hr=> ?_⟩
   · have h6: (oneT F n msg i e).2=true:=by simpa [oneT] using hr
     rw [listsF,if_pos h6] at h5;rw [←h5];simpa [oneT] using hx
   · have h6:¬ (oneT F n msg i e).2=true:=by
      have : (oneT F n msg i e).2=false:=by simpa [oneT] using hr
      simp [this]
     have h7: (takeL F n msg i 0 e).1= []:=by
      simp only [Bool.or_eq_false_iff,decide_eq_false_iff_not,List.nil_append] at hr;exact List.eq_nil_of_length_eq_zero (by omega)
     rw [listsF,if_neg h6] at h5;have h8: (oneT F n msg i e).1= []:=h7;rw [h8,List.nil_append] at h5;rw [h7] at hx;exact ⟨hx,by push_cast;exact h5⟩
 · intro lo lc W1 hP hr;have hC:=takerOneC (out:=[]) (lc:=lc) (-1:Int) W1 hT hP.1 hr hf.out (by have:=hf.n1;omega) (by simp);refine Calls.mono hC ?_;rintro x W2 ⟨rfl,hx⟩;refine ⟨_,rfl, ?_⟩;have h5:=hP.2;rw [List.drop_eq_nil_of_le (Nat.le_refl _),listsF] at h5;rw [←h5];simpa [oneT] using hx
theorem takers_inv {E:EnvD} {pid n:Int} {msg:List Int} (hx:¬ ((procE { E with pid:=pid }).loc= (typE { E with pid:=pid }).final∨ (provE { E with pid:=pid }).1=false∨ (provE { E with pid:=pid }).2≠0)):takersF E pid n msg=listsF (oneT { E with pid:=pid } n msg) 0 (placeE { E with pid:=pid }).esc (placeE { E with pid:=pid }).out:=by
 unfold takersF;rw [if_neg hx];rfl
set_option maxRecDepth 100000 in
set_option maxHeartbeats 4000000 in
theorem takersC {B b pe:Nat} {h:MH} {hs:SH} {ao uo:Option Addr} {ac uc:Nat} {E:EnvD} {msg:List Int} (pid n:Int) (w:World) (hblk:w.heap[pe]? =some (.cells (eCells h hs ao ac E) 36 (0,0))) (hB:B≤w.heap.size) (hd:ED B w h hs ao E) (hok:Ok E) (hp:0≤pid∧pid < E.s.procs.length) (hb:b≤w.heap.size) (hm:Row b uo 1 (intAt w) msg):
 Calls Tryz.prog 123 #[.pointer (some ⟨pe,0,none⟩),.int .i64 pid,.int .i64 n,.slice uo msg.length uc] w (XWaysP (takersF E pid n msg) w):=by
 have HOF:Hid (Ok { E with pid:=pid }):=Lib.hid ⟨hok.good,hok.may,by have:=hp.1;show -1≤pid;omega,hp.2⟩;obtain ⟨k,tk,kl,p,t,l,hpf⟩:=PF.of HOF.out hp.1;have HPF:=Lib.hid hpf;obtain ⟨CS,hCS⟩:∃c,c=eCells h hs ao ac E:=⟨_,rfl⟩;rw [←hCS] at hblk;have HCS:=Lib.hid hCS;have HW:=Lib.hid (And.intro hblk (And.intro hB (And.intro hd (And.intro hb hm))));have HI:Hid ((Tryz.prog.info? 36).map (·.size)=some CS.size):=Lib.hid (by rw [hCS];show _=some 16;kernel_rfl);have HSZ:Hid (CS.size=16):=Lib.hid (by rw [hCS];rfl);clear hblk hB hd hok hp hb hm hpf hCS;go_enter Tryz.func123,Tryz.ntmps123;go_upto_region 1 with fail
 obtain ⟨y1,⟨u13,y2⟩,y3,ht5⟩:=T5.make (w:=w) (pid:=pid) (n:=n) (mv:= .slice uo msg.length uc) (T1:=3) (T2:=3) (T3:=82) HSZ.out;have HT5:=Lib.hid ht5;have hb3:Below w.heap.size w (((w.alloc (.cells #[.int .i64 pid] 3)).alloc (.cells #[.int .i64 n] 3)).alloc (.cells #[.slice uo msg.length uc] 82)):=((ball _).trans ((ball _).mono (by simp))).trans ((ball _).mono (by simp;omega));have HB3:=Lib.hid ((hb3.block pe (lt_of_block HW.out.1)).trans HW.out.1);have hsz: (((w.alloc (.cells #[.int .i64 pid] 3)).alloc (.cells #[.int .i64 n] 3)).alloc (.cells #[.slice uo msg.length uc] 82)).heap.size=w.heap.size+1+1+1:=by simp
 clear hb3 ht5;generalize (((w.alloc (.cells #[.int .i64 pid] 3)).alloc (.cells #[.int .i64 n] 3)).alloc (.cells #[.slice uo msg.length uc] 82))=W3 at HT5 HB3 hsz y1 y2 y3 ⊢;go_wp2_with (refine wpList_load_row rfl _ _ rfl _ rfl _ CS _ _ HB3.out Tryz.underlying36 rfl HI.out ?_);have hst:=run_storeCells_new (P:=Tryz.prog) W3 36 #[.slice none 0 0,.slice none 0 0,.slice none 0 0,.slice none 0 0,.slice none 0 0,.int .i64 0,.slice none 0 0,.slice none 0 0,.slice none 0 0,.slice none 0 0,.int .i64 0,.int .i64 0,.int .i64 0,.int .i64 0,.bool false,.slice none 0 0] CS HI.out HSZ.out.symm (by rw [HCS.out];exact xC_one _ _ _ _ _);rw [hsz] at hst;rw [hst];clear hst HB3;go_upto_region 2 with fail
 generalize W3.alloc (.cells CS 36)=W4 at HT5 y1 y2 y3 ⊢;clear hsz;go_wp2_with fail;clear y1 y2 y3;have hpf3:w.heap.size+1+1+1=w.heap.size+3:=by omega
 rw [hpf3] at HT5 ⊢;obtain ⟨pf,hpf⟩:∃q,w.heap.size+3=q:=⟨_,rfl⟩;rw [hpf] at HT5 ⊢;obtain ⟨W5,hW5⟩:∃W,W4.setCell ⟨pf,13,none⟩ (.int .i64 pid)=W:=⟨_,rfl⟩;rw [hW5] at HT5 ⊢;clear hW5 hpf3;have hE5:CS.set! 13 (.int .i64 pid)=eCells h hs ao ac { E with pid:=pid }:=by rw [HCS.out];rfl
 have HEK:Hid (Ek B W5 pf h hs ao ac { E with pid:=pid }):=Lib.hid (Ek.ofW (T:=36) (by rw [←hE5];exact HT5.out.box) (Nat.le_trans HW.out.2.1 HT5.out.bel.size) (by
  have:=HW.out.2.2.1.below (HT5.out.bel.mono HW.out.2.1);exact ⟨this.md,this.sd,this.able⟩))
 obtain ⟨F,hF⟩:∃F,{ E with pid:=pid }=F:=⟨_,rfl⟩;have HV:=Lib.hid (fun hx=>takers_inv (E:=E) (pid:=pid) (n:=n) (msg:=msg) hx);have HV0:Hid (((procE F).loc= (typE F).final∨ (provE F).1=false∨ (provE F).2≠0)→takersF E pid n msg= []):=Lib.hid (by rw [←hF];intro hx;unfold takersF;rw [if_pos hx]);have HPE:Hid (F.pid=pid):=Lib.hid (by rw [←hF]);rw [hF] at HEK HOF HPF HV;clear hE5 hF;obtain ⟨g,off,ho,hg,hpa⟩:=HEK.out.sk.sd.procs.get HPF.out.hp;obtain ⟨g2,off2,ho2,hg2,hta⟩:=HEK.out.ck.md.procs.get HPF.out.ht;have HP:=Lib.hid (processC W5 HEK.out HPF.out.pid HPF.out.hp HPF.out.etk HPF.out.ht ho ho2);have HQ:Hid (∀W,Below W5.heap.size W5 W→W.cell? ⟨g,off+k*4+1,none⟩=some (.int .i64 kl)∧W.cell? ⟨g2,off2+tk*10+6,none⟩=some (.int .i64 t.final)∧W.cell? ⟨g2,off2+tk*10+9,none⟩=some (.int .i64 t.provided)):=Lib.hid fun W hb=>by
  have hl:=HEK.out.leW;exact ⟨(hb.cell (p:=⟨g,off+k*4+1,none⟩) (by show g < _;omega)).trans (by rw [←HPF.out.ekl];exact hpa.c1),(hb.cell (p:=⟨g2,off2+tk*10+6,none⟩) (by show g2 < _;omega)).trans hta.c6,(hb.cell (p:=⟨g2,off2+tk*10+9,none⟩) (by show g2 < _;omega)).trans hta.c9⟩
 clear hpa hta ho ho2;go_wp2_with fail;refine HP.out.mono ?_;rintro e W6 ⟨rfl,hb6⟩;have HB6:=Lib.hid hb6;clear hb6 HP;go_upto_region 4 with fail
 obtain ⟨x1,x2,x3⟩:=HQ.out W6 HB6.out;by_cases hfin: (kl:Int)=t.final
 · have hd0: ((kl:Int) == t.final)=true:=by simpa using hfin
   have HVV:Hid (takersF E pid n msg= []):=Lib.hid (HV0.out (.inl (by rw [HPF.out.e1,HPF.out.e2,HPF.out.ekl];exact hfin)));go_quiet (fail);have HB7:Hid (Below w.heap.size w (W6.drewN nq)):=Lib.hid (HT5.out.bel.trans ((bdrew HB6.out nq).mono HT5.out.bel.size));generalize W6.drewN nq=W7 at HB7 ⊢;go_wp2_with fail;refine bodyPost_ret (v:= .slice none 0 0) (by simp [results,Tryz.results123,go_sem]) rfl ?_;exact ⟨.slice none 0 0,rfl,by rw [HVV.out];exact World.ownsRow_nil _ _ _ _,HB7.out⟩
 have hd0: ((kl:Int) == t.final)=false:=by simpa using hfin
 have HNF:=Lib.hid hfin;clear hfin;go_quiet (fail);have HB7:Hid (Below W5.heap.size W5 (W6.drewN nq)):=Lib.hid (bdrew HB6.out nq);generalize W6.drewN nq=W7 at HB7 ⊢;clear x1 x2 x3 HB6 hd0;obtain ⟨x1,x2,x3⟩:=HQ.out W7 HB7.out;have HTL:Hid (∀W,Below W5.heap.size W5 W→Calls Tryz.prog 41 #[.pointer (some ⟨pf,0,none⟩),.func (.func 158) #[] #[.pointer (some ⟨pf,0,none⟩),.pointer (some ⟨w.heap.size+1,0,none⟩),.pointer (some ⟨w.heap.size+1+1,0,none⟩),.pointer (some ⟨W.heap.size,0,none⟩),.pointer (some ⟨w.heap.size,0,none⟩)]] (W.alloc (.cells #[.slice none 0 0] 45)) fun e W'=>e= .returned (.tuple #[])∧TX W.heap.size W (listsF (oneT F n msg) 0 l.esc l.out) W'):=Lib.hid fun W hb=>by
  have h5:=lt_of_block HT5.out.box;have h6:=HT5.out.pf;have h7:=hb.size;have hbw:=HT5.out.bel.trans (hb.mono HT5.out.bel.size);refine takersLists W (HEK.out.below hb) HOF.out HPF.out ((hb.cell (p:=⟨w.heap.size+1,0,none⟩) (by show w.heap.size+1 < _;omega)).trans HT5.out.n2) ((hb.cell (p:=⟨w.heap.size+1+1,0,none⟩) (by show w.heap.size+1+1 < _;omega)).trans HT5.out.n3) ((hb.cell (p:=⟨w.heap.size,0,none⟩) (by show w.heap.size < _;omega)).trans (by rw [HPE.out];exact HT5.out.n1)) ⟨by omega,by omega,by omega⟩ ?_;exact (HW.out.2.2.2.2.mono fun _ _ _ hgg=>intAt.below (hbw.mono HW.out.2.2.2.1) hgg).up (Nat.le_trans HW.out.2.2.2.1 hbw.size)
 have HLE:Hid (∀W,Below W5.heap.size W5 W→w.heap.size≤W.heap.size+1):=Lib.hid fun W hb=>by have:=HT5.out.bel.size;have:=hb.size;omega
 have HWP:Hid (∀W W' L,Below W5.heap.size W5 W→TX W.heap.size W L W'→Below w.heap.size w W'):=Lib.hid fun W W' L hb hx=>by
  have hbw:=HT5.out.bel.trans (hb.mono HT5.out.bel.size);exact hbw.trans (hx.bel.mono hbw.size)
 by_cases hpr:0≤t.provided;rotate_left
 · have hdp:decide (0≤t.provided)=false:=decide_eq_false hpr;have HVL:Hid (takersF E pid n msg=listsF (oneT F n msg) 0 l.esc l.out):=Lib.hid (by
    rw [HV.out (by
     unfold provE;rw [HPF.out.e1,HPF.out.e2,HPF.out.ekl,if_neg hpr];rintro (h | h | h)
     · exact HNF.out h
     · cases h
     · exact h rfl),HPF.out.e3])
   clear hpr;have HLS:=Lib.hid (HTL.out W7 HB7.out);go_wp2_with fail;refine HLS.out.mono ?_;rintro e W9 ⟨rfl,hx⟩;have HX9:=Lib.hid (HWP.out W7 W9 _ HB7.out hx);obtain ⟨v,hbx,hrow⟩:=hx.box;obtain ⟨o1,q1,rfl⟩:=owns_head hrow;have y9:W9.cell? ⟨W7.heap.size,0,none⟩=some (.slice o1 (listsF (oneT F n msg) 0 l.esc l.out).length q1):=(cell_of_row _ _ 0 _ _ _ hbx).trans rfl;have HR9:=Lib.hid (hrow.mono (HLE.out W7 HB7.out));clear hx hbx hrow HLS;go_wp2_with fail;refine bodyPost_ret (v:= .slice o1 (listsF (oneT F n msg) 0 l.esc l.out).length q1) (by simp [results,Tryz.results123,go_sem]) rfl ?_;exact ⟨_,rfl,by rw [HVL.out];exact HR9.out,HX9.out⟩
 have hdp:decide (0≤t.provided)=true:=decide_eq_true hpr;have HPR:=Lib.hid hpr;have HEC:=Lib.hid (evalC HOF.out t.provided W7 hpr HPF.out.prov.2 (HEK.out.below HB7.out));obtain ⟨⟨v,er⟩,hev⟩:∃r,evE F t.provided=r:=⟨_,rfl⟩;have HEV:=Lib.hid hev;rw [show evalF F F.m.exprs.length t.provided= (v,er) from hev] at HEC;simp only at HEC;clear hev hpr;go_wp2_with fail;refine HEC.out.mono ?_;rintro e W8 ⟨rfl,hb8⟩;have HB8:=Lib.hid (keepS HB7.out hb8);clear hb8 HEC x1 x2 x3 hdp;by_cases h0:er=0;rotate_left
 · have hd0: (er != 0)=true:=by rw [bne_iff_ne];exact h0
   have HVV:Hid (takersF E pid n msg= []):=Lib.hid (HV0.out (.inr (.inr (by unfold provE;rw [HPF.out.e2,if_pos HPR.out,HEV.out,if_pos h0];exact h0))));clear h0;go_wp2_with fail;refine bodyPost_ret (v:= .slice none 0 0) (by simp [results,Tryz.results123,go_sem]) rfl ?_;exact ⟨.slice none 0 0,rfl,by rw [HVV.out];exact World.ownsRow_nil _ _ _ _,HT5.out.bel.trans (HB8.out.mono HT5.out.bel.size)⟩
 subst h0;by_cases hv:v=0
 · have HVV:Hid (takersF E pid n msg= []):=Lib.hid (HV0.out (.inr (.inl (by unfold provE;rw [HPF.out.e2,if_pos HPR.out,HEV.out,if_neg (by simp)];simp [hv]))));subst hv;go_wp2_with fail;refine bodyPost_ret (v:= .slice none 0 0) (by simp [results,Tryz.results123,go_sem]) rfl ?_;exact ⟨.slice none 0 0,rfl,by rw [HVV.out];exact World.ownsRow_nil _ _ _ _,HT5.out.bel.trans (HB8.out.mono HT5.out.bel.size)⟩
 have hdv: (v == 0)=false:=by simpa using hv
 have HVL:Hid (takersF E pid n msg=listsF (oneT F n msg) 0 l.esc l.out):=Lib.hid (by
  rw [HV.out (by
   unfold provE;rw [HPF.out.e1,HPF.out.e2,HPF.out.ekl,if_pos HPR.out,HEV.out,if_neg (by simp)];rintro (h | h | h)
   · exact HNF.out h
   · simp [hv] at h
   · exact h rfl),HPF.out.e3])
 clear hv;have HLS:=Lib.hid (HTL.out W8 HB8.out);go_wp2_with fail;refine HLS.out.mono ?_;rintro e W9 ⟨rfl,hx⟩;have HX9:=Lib.hid (HWP.out W8 W9 _ HB8.out hx);obtain ⟨v,hbx,hrow⟩:=hx.box;obtain ⟨o1,q1,rfl⟩:=owns_head hrow;have y9:W9.cell? ⟨W8.heap.size,0,none⟩=some (.slice o1 (listsF (oneT F n msg) 0 l.esc l.out).length q1):=(cell_of_row _ _ 0 _ _ _ hbx).trans rfl;have HR9:=Lib.hid (hrow.mono (HLE.out W8 HB8.out));clear hx hbx hrow HLS;go_wp2_with fail;refine bodyPost_ret (v:= .slice o1 (listsF (oneT F n msg) 0 l.esc l.out).length q1) (by simp [results,Tryz.results123,go_sem]) rfl ?_;exact ⟨_,rfl,by rw [HVL.out];exact HR9.out,HX9.out⟩
end Go.Proofs.YthfldokfnjpkmaaGreatDoor
