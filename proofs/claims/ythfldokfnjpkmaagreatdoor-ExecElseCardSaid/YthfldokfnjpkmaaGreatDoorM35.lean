/- The document's tables: the first three parts of a model. -/
import Derived.Test.YthfldokfnjpkmaaGreatDoorM34
import Derived.Test.YthfldokfnjpkmaaGreatDoorM25
import Derived.Test.YthfldokfnjpkmaaGreatDoorM05
import Derived.Deep.CutRange
import Derived.Laws.MakeOwn
set_option linter.unusedVariables false
set_option linter.unusedSimpArgs false
namespace Go.Proofs.YthfldokfnjpkmaaGreatDoor
open Go.ChangeShapes Go.WideShapes Go.ChangeAt Go.RowKit
def tablesF (m:ModelD):Int × Int:=if (globalsL m).2=false then (1,(globalsL m).1) else if (channelsL m).2=false then (2,(channelsL m).1) else if (expressionsL m).2=false then (3,(expressionsL m).1) else (0,0)
theorem retII {a b c d:Int} (h1:a=c) (h2:b=d):Ending.returned (.tuple #[.int .i64 a,.int .i64 b])= .returned (.tuple #[.int .i64 c,.int .i64 d]):=by rw [h1,h2]
theorem typed_none {t:List (Int × Bool)} {v:List Int} (h:typedF t v < 0):idxB (bad fitZ (t.zip v))= (0,true):=by
 unfold typedF at h;cases hb:bad fitZ (t.zip v) with
 | none=>rfl
 | some i=>rw [hb] at h;simp at h;omega
def ArgsB (m:ModelD):Prop:=∀x ∈ m.exprs,x.args.length≤17592186044416
theorem parts_len {m:ModelD} {x:ExprD} (h:exprB m x=true) (ha:x.args.length≤17592186044416): (partsL x).length≤17592186044416:=by
 unfold exprB at h;simp only [Bool.and_eq_true,decide_eq_true_eq] at h;obtain ⟨⟨h1,h2⟩,h3⟩:=h;have ht: ((abcL x).take (partsOf x.op)).length≤3:=by rw [List.length_take];unfold abcL;simp;omega
 unfold partsL moreL;rw [List.length_append];by_cases k2:x.op=2
 · rw [if_pos k2];unfold kindB at h3;rw [if_neg (by omega),if_pos k2] at h3;unfold varB varHeadB at h3;simp only [Bool.and_eq_true,Bool.not_eq_true',decide_eq_false_iff_not] at h3;have hd:x.v.dims.length≤4:=by omega
   rw [List.length_append,List.length_map];have : (if x.v.scope=2 then [x.v.who] else []).length≤1:=by split <;> simp
   omega
 · rw [if_neg k2];by_cases k3:x.op=30∨x.op=39
   · rw [if_pos k3];rcases k3 with k3 | k3
     · unfold kindB at h3;rw [if_neg (by omega),if_neg k2,if_pos k3] at h3;unfold fieldsB at h3;simp only [Bool.and_eq_true,Bool.not_eq_true',decide_eq_false_iff_not] at h3;omega
     · have e:partsOf x.op=0:=by rw [k3];rfl
       rw [e];simp only [List.take_zero,List.length_nil];omega
   · rw [if_neg k3];simp only [List.length_nil];omega
def LRow (g off:Nat) (L:List Int) (W:World):Prop:=∀q (hq:q < L.length),W.cell? ⟨g,off+q,none⟩=some (.int .i64 L[q])
theorem LRow.set {g off:Nat} {L:List Int} {W:World} (h:LRow g off L W) (T q:Nat) (v:Value) (hne:g≠T):LRow g off L (W.setCell ⟨T,q,none⟩ v):=fun j hj=>by
 rw [World.cell?_of_block (w:=W) (by rw [heap_setCell_other _ _ _ _ (by exact hne)])];exact h j hj
structure Tk (w:World) (CS:Array Value) (h:MH) (m:ModelD) (T n:Nat) (t:List Bool) (W:World):Prop where
 mx:Mx w w.heap.size CS h m W
 row:W.ownsRow (w.heap.size+1) 4 1 (.slice (some ⟨T,0,none⟩) n n) n (boolsV t)
theorem Tk.below {w W W':World} {CS:Array Value} {h:MH} {m:ModelD} {T n:Nat} {t:List Bool} (k:Tk w CS h m T n t W) (hb:Below W.heap.size W W'):Tk w CS h m T n t W':=⟨k.mx.below hb,owns_below k.row hb⟩
theorem Tk.lt {w W:World} {CS:Array Value} {h:MH} {m:ModelD} {T n:Nat} {t:List Bool} (k:Tk w CS h m T n t W):w.heap.size+1≤T∧T < W.heap.size:=k.row.lt T rfl
theorem Tk.len {w W:World} {CS:Array Value} {h:MH} {m:ModelD} {T n:Nat} {t:List Bool} (k:Tk w CS h m T n t W):t.length=n:=by
 have:=k.row.1;simpa [boolsV] using this
theorem Tk.cell {w W:World} {CS:Array Value} {h:MH} {m:ModelD} {T n:Nat} {t:List Bool} (k:Tk w CS h m T n t W) {q:Nat} (hq:q < n):W.cell? ⟨T,q,none⟩=some (.bool (t.getD q false)):=by
 have hl:=k.len;refine (World.ownsRow.cellAt k.row q (by omega)).trans ?_;unfold boolsV;rw [List.getElem?_map,List.getElem?_eq_getElem (by omega)];simp [List.getD,List.getElem?_eq_getElem (show q < t.length by omega)]
theorem Tk.yes {w W:World} {CS:Array Value} {h:MH} {m:ModelD} {T n:Nat} {t:List Bool} (k:Tk w CS h m T n t W) (q:Nat):Tk w CS h m T n (t.set q true) (W.setCell ⟨T,q,none⟩ (.bool true)):=by
 have hT:=k.lt;refine ⟨⟨k.mx.eq,⟨?_,k.mx.bx.bel.setCell (by show w.heap.size≤T;omega) _⟩,k.mx.md.below ((Below.refl _ _).setCell (by show w.heap.size≤T;omega) _)⟩, ?_⟩
 · rw [heap_setCell_other _ _ _ _ (by show w.heap.size≠T;omega)];exact k.mx.bx.box
 · have:=(k.row.stored q (.bool true)).1;unfold boolsV at this ⊢;rw [List.map_set];exact this
theorem Mx.expression {w W:World} {p:Nat} {CS:Array Value} {h:MH} {m:ModelD} (k:Mx w p CS h m W) (i:Nat) (x:ExprD) (hx:m.exprs[i]? =some x):Calls Tryz.prog 153 #[.agg CS,.int .i64 i] W fun e w'=>e= .returned (.bool (dexprB m i x))∧Below W.heap.size W w':=by
 rw [k.eq];exact expressionH i x hx W k.here
set_option maxRecDepth 100000 in
set_option maxHeartbeats 8000000 in
theorem tablesH {h:MH} {m:ModelD} (w:World) (hd:MD w.heap.size w h m) (hab:ArgsB m):Calls Tryz.prog 107 #[mV h m] w fun e w'=>e= .returned (.tuple #[.int .i64 (tablesF m).1,.int .i64 (tablesF m).2])∧Below w.heap.size w w':=by
 obtain ⟨CS,hCS⟩:∃c,c=mCells h m:=⟨_,rfl⟩;have l0:=hd.globals.1;have l1:=hd.init.1;have l2:=hd.shapes.1;have l3:=hd.chans.1;have l4:=hd.procs.1;have l6:=hd.exprs.1;have HAB:=Lib.hid hab;have HX:=Lib.hid (Mx.new hd hCS);have HMD:=Lib.hid hd;have HT:Hid (∀a b,tablesF m= (a,b)→Ending.returned (.tuple #[.int .i64 a,.int .i64 b])= .returned (.tuple #[.int .i64 (tablesF m).1,.int .i64 (tablesF m).2])):=Lib.hid fun a b h=>by rw [h]
 unfold mV;rw [←hCS];clear hd hCS hab;go_enter Tryz.func107,Tryz.ntmps107;go_upto_region 1 with fail
 generalize w.alloc (.cells CS 29)=W1 at HX ⊢;have c0:=HX.out.c0;have c1:=HX.out.c1;by_cases hb1:128 < m.globals.length∨m.init.length≠m.globals.length
 · have HV:Hid (tablesF m= (1,-1)):=Lib.hid (by unfold tablesF globalsL;rw [if_pos hb1];rfl);by_cases g1:128 < m.globals.length
   · clear hb1;go_wp2_with fail;go_ret2;exact ⟨HT.out _ _ HV.out,HX.out.bx.bel⟩
   · have g2: ((m.init.length:Int) != (m.globals.length:Int))=true:=by rw [bne_iff_ne];omega
     clear hb1;go_wp2_with fail;go_ret2;exact ⟨HT.out _ _ HV.out,HX.out.bx.bel⟩
 have g1:¬128 < m.globals.length:=fun h=>hb1 (.inl h)
 have g2: ((m.init.length:Int) != (m.globals.length:Int))=false:=by rw [bne_eq_false_iff_eq];omega
 have hl:m.init.length=m.globals.length:=by omega
 have HG:Hid (globalsL m=idxB (bad fitZ (m.globals.zip m.init))):=Lib.hid (by unfold globalsL;rw [if_neg hb1]);have HTY:=Lib.hid (typedH m.globals m.init h.go h.io h.gc h.ic W1 HX.out.bx.bel.size (HMD.out.globals.mono fun _ _ _ hg=>tyAt.below HX.out.bx.bel hg) (HMD.out.init.mono fun _ _ _ hg=>intAt.below HX.out.bx.bel hg) hl);clear hb1 hl;go_wp2_with fail;refine HTY.out.mono ?_;rintro e W2 ⟨rfl,hb2⟩;have HX2:=Lib.hid (HX.out.below hb2);clear hb2 HTY HX c0 c1 g1 g2;obtain ⟨ty,hty⟩:∃t,typedF m.globals m.init=t:=⟨_,rfl⟩;rw [hty];by_cases kt:0≤ty
 · have HV:Hid (tablesF m= (1,ty)):=Lib.hid (by unfold tablesF;rw [HG.out,(typed_pos (by rw [hty];exact kt)).2,hty];rfl);clear hty;go_wp2_with fail;go_ret2;exact ⟨HT.out _ _ HV.out,HX2.out.bx.bel⟩
 have HG2:Hid (tablesF m=if (channelsL m).2=false then (2,(channelsL m).1) else if (expressionsL m).2=false then (3,(expressionsL m).1) else (0,0)):=Lib.hid (by unfold tablesF;rw [HG.out,typed_none (by rw [hty];omega)];rfl);clear hty HG;have c2:=HX2.out.c2;have c3:=HX2.out.c3;by_cases hb2:32 < m.shapes.length∨32 < m.chans.length
 · have HV:Hid (tablesF m= (2,-1)):=Lib.hid (by rw [HG2.out];unfold channelsL;rw [if_pos hb2];rfl);by_cases g1:32 < m.shapes.length
   · clear hb2;go_wp2_with fail;go_ret2;exact ⟨HT.out _ _ HV.out,HX2.out.bx.bel⟩
   · have g2:32 < m.chans.length:=by omega
     clear hb2;go_wp2_with fail;go_ret2;exact ⟨HT.out _ _ HV.out,HX2.out.bx.bel⟩
 have g1:¬32 < m.shapes.length:=fun h=>hb2 (.inl h)
 have g2:¬32 < m.chans.length:=fun h=>hb2 (.inr h)
 have HC:Hid (channelsL m=match bad shapeB m.shapes with | some i=>((i:Int),false) | none=>idxB (bad (chanB m) m.chans)):=Lib.hid (by unfold channelsL;rw [if_neg hb2];rfl);clear hb2;go_wp2_with fail
 go_loopw [5] (fun jv wr=>∃k:Nat,jv= .int .i64 k∧k≤m.shapes.length∧Hid (∀j (hj:j < m.shapes.length),j < k→shapeB m.shapes[j]=true)∧Hid (Mx w w.heap.size CS h m wr)) (fun jv _=>m.shapes.length - (intOf jv).toNat)
 case atStart=>exact ⟨0,rfl,by omega,Lib.hid fun j _ h=>by omega,HX2⟩
 case round=>
  clear HX2 c2 c3;obtain ⟨k,rfl,hk,HJ,HX⟩:=hrel;have hk0: (0:Int)≤k:=by omega
  have c2:=HX.out.c2;by_cases hlt:k < m.shapes.length
  · have hlti: (k:Int) < m.shapes.length:=by omega
    obtain ⟨gs,offs,hso,hgs,hsh⟩:=HX.out.md.shapes.cell hlt;obtain ⟨s,hs⟩:∃s,m.shapes[k]=s:=⟨_,rfl⟩;rw [hs] at hsh;obtain ⟨fo,fc,x1,hrf⟩:=hsh.fields;have x0:=hsh.c0;have HSH:=Lib.hid (shapeH s fo fc wr HX.out.bx.bel.size hrf);have HBAD:Hid (shapeB s=false→tablesF m= (2,(k:Int))):=Lib.hid fun h=>by
     have e:=bad_some hlt (by rw [hs];exact h) HJ.out;rw [HG2.out,HC.out,e];rfl
    have HGO:Hid (shapeB s=true→∀j (hj:j < m.shapes.length),j < k+1→shapeB m.shapes[j]=true):=Lib.hid fun h j hj hjk=>by
     by_cases e:j=k
     · subst e;rw [hs];exact h
     · exact HJ.out j hj (by omega)
    rw [hso] at c2;clear hs hsh hrf hso hgs HJ;go_wp2_with fail;refine HSH.out.mono ?_;rintro e W3 ⟨rfl,hb3⟩;have HX3:=Lib.hid (HX.out.below hb3);clear hb3 HSH HX c2 x0 x1;obtain ⟨u,hu⟩:∃u,shapeB s=u:=⟨_,rfl⟩;rw [hu] at HBAD HGO;rw [hu];clear hu;cases u
    · have HZ:=Lib.hid (HBAD.out rfl);go_wp2_with fail;go_ret2;exact ⟨HT.out _ _ HZ.out,HX3.out.bx.bel⟩
    · have HZ:=Lib.hid (HGO.out rfl);go_wp2_with fail;go_roundw;case rel=>exact ⟨k+1,by go_num,by omega,HZ,HX3⟩
      case measure=>simp [intOf];omega
  · have hlti:¬ (k:Int) < m.shapes.length:=by omega
    have HC2:Hid (channelsL m=idxB (bad (chanB m) m.chans)):=Lib.hid (by
     have e:bad shapeB m.shapes=none:=bad_none fun j hj=>HJ.out j hj (by omega)
     have h1:=HC.out;rw [e] at h1;exact h1)
    clear HC HJ;go_wp2_with fail;clear c2
    go_loopw [7] (fun jv wr=>∃k:Nat,jv= .int .i64 k∧k≤m.chans.length∧Hid (∀j (hj:j < m.chans.length),j < k→chanB m m.chans[j]=true)∧Hid (Mx w w.heap.size CS h m wr)) (fun jv _=>m.chans.length - (intOf jv).toNat)
    case atStart=>exact ⟨0,rfl,by omega,Lib.hid fun j _ h=>by omega,HX⟩
    case round=>
     clear HX hlti hlt hk
     rename_i _ _ _ _ _ _ _
     obtain ⟨k2,rfl,hk2,HJ,HX⟩:=hrel;have hk20: (0:Int)≤k2:=by omega
     have hk200:0≤k2:=by omega
     have c2:=HX.out.c2;have c3:=HX.out.c3;by_cases hlt:k2 < m.chans.length
     · have hlti: (k2:Int) < m.chans.length:=by omega
       obtain ⟨gs,offs,hso,hgs,hch⟩:=HX.out.md.chans.cell hlt;obtain ⟨s,hs⟩:∃s,m.chans[k2]=s:=⟨_,rfl⟩;unfold intAt at hch;rw [hs,Nat.mul_one] at hch;have HCB:Hid (chanB m s=decide (0≤s∧s < m.shapes.length)):=Lib.hid rfl;have HBAD:Hid (chanB m s=false→tablesF m= (2,(k2:Int))):=Lib.hid fun h=>by
        have e:=bad_some hlt (by rw [hs];exact h) HJ.out;rw [HG2.out,HC2.out,e];rfl
       have HGO:Hid (chanB m s=true→∀j (hj:j < m.chans.length),j < k2+1→chanB m m.chans[j]=true):=Lib.hid fun h j hj hjk=>by
        by_cases e:j=k2
        · subst e;rw [hs];exact h
        · exact HJ.out j hj (by omega)
       rw [hso] at c3;clear hs hso hgs HJ;by_cases d0:s < 0
       · have d1:decide (s < 0)=true:=decide_eq_true d0;have HZ:=Lib.hid (HBAD.out (by rw [HCB.out];exact decide_eq_false (by omega)));clear d0;go_wp2_with fail;go_quiet (fail);go_wp2_with fail;go_ret2;exact ⟨HT.out _ _ HZ.out,(HX.out.drewN _).bx.bel⟩
       have d1:decide (s < 0)=false:=decide_eq_false d0;by_cases d2: (m.shapes.length:Int)≤s
       · have d3:decide ((m.shapes.length:Int)≤s)=true:=decide_eq_true d2;have HZ:=Lib.hid (HBAD.out (by rw [HCB.out];exact decide_eq_false (by omega)));clear d0 d2;go_wp2_with fail;go_quiet (fail);go_wp2_with fail;go_ret2;exact ⟨HT.out _ _ HZ.out,(HX.out.drewN _).bx.bel⟩
       · have d3:decide ((m.shapes.length:Int)≤s)=false:=decide_eq_false d2;have HZ:=Lib.hid (HGO.out (by rw [HCB.out];exact decide_eq_true (by omega)));clear d0 d2;go_wp2_with fail;go_quiet (fail);go_wp2_with fail;go_roundw;case rel=>exact ⟨k2+1,by go_num,by omega,HZ,Lib.hid (HX.out.drewN _)⟩
         case measure=>simp [intOf];omega
     · have hlti:¬ (k2:Int) < m.chans.length:=by omega
       have HG3:Hid (tablesF m=if (expressionsL m).2=false then (3,(expressionsL m).1) else (0,0)):=Lib.hid (by
        have e:bad (chanB m) m.chans=none:=bad_none fun j hj=>HJ.out j hj (by omega)
        rw [HG2.out,HC2.out,e];rfl)
       clear HG2 HC2 HJ;have c4:=HX.out.c4;have c5:=HX.out.c5;have c6:=HX.out.c6;go_upto_region 19 with fail
       go_cut [113] from 85 to 113 (fun v wx=>v= .bool (exprsHead m)∧wr=wx)
       case first=>
        have HN:Hid (∀b:Bool,((m.procs.length < 1∨16 < m.procs.length∨m.claim < -1∨ (m.procs.length:Int)≤m.claim∨4096 < m.exprs.length)↔b=true)→Value.bool b= .bool (exprsHead m)):=Lib.hid (by
         intro b hb;congr 1;unfold exprsHead;rw [Bool.eq_iff_iff,←hb,decide_eq_true_eq])
        clear c2 c3;by_cases z1:m.procs.length < 1
        · go_wp2_with fail;go_meet;case rel=>exact ⟨HN.out _ ⟨fun _=>rfl,fun _=> .inl z1⟩,rfl⟩
        by_cases z2:16 < m.procs.length
        · go_wp2_with fail;go_meet;case rel=>exact ⟨HN.out _ ⟨fun _=>rfl,fun _=> .inr (.inl z2)⟩,rfl⟩
        by_cases z3:m.claim < -1
        · go_wp2_with fail;go_meet;case rel=>exact ⟨HN.out _ ⟨fun _=>rfl,fun _=> .inr (.inr (.inl z3))⟩,rfl⟩
        by_cases z4: (m.procs.length:Int)≤m.claim
        · go_wp2_with fail;go_meet;case rel=>exact ⟨HN.out _ ⟨fun _=>rfl,fun _=> .inr (.inr (.inr (.inl z4)))⟩,rfl⟩
        by_cases z5:4096 < m.exprs.length
        · go_wp2_with fail;go_meet;case rel=>exact ⟨HN.out _ ⟨fun _=>by first | rfl | exact decide_eq_true (by omega) | (simp;omega),fun _=> .inr (.inr (.inr (.inr z5)))⟩,rfl⟩
        · go_wp2_with fail;go_meet;case rel=>exact ⟨HN.out _ ⟨fun h0=>by exfalso;omega,fun h0=>by exfalso;first | (cases h0;done) | (simp at h0;omega)⟩,rfl⟩
       case rest=>
       obtain ⟨rfl,hwx⟩:=hcut;subst hwx;clear c2 c3 c4 c5 c6;cases hhd:exprsHead m;rotate_left
       · have HV:Hid (tablesF m= (3,-1)):=Lib.hid (by rw [HG3.out];unfold expressionsL;rw [hhd];rfl);go_wp2_with fail;go_ret2;exact ⟨HT.out _ _ HV.out,HX.out.bx.bel⟩
       have hlen:m.exprs.length≤4096:=by
        unfold exprsHead at hhd;rw [decide_eq_false_iff_not] at hhd;omega
       have HV:Hid (exprsGo m m.exprs 0 (List.replicate m.exprs.length false)=expressionsL m):=Lib.hid (by unfold expressionsL;rw [hhd];rfl);clear hhd;obtain ⟨i4,hi4,hz0,hz1,hz2⟩:=held.info_parts info_bool;have HI:=Lib.hid (And.intro hi4 (And.intro hz0 (And.intro hz1 hz2)));clear hi4 hz0 hz1 hz2;have HL1:Hid (m.exprs.length≤maxLen):=Lib.hid (by unfold maxLen;omega);have HL2:Hid (i4.bytes*m.exprs.length≤281474976710656):=Lib.hid (by rw [HI.out.2.2.2];omega);have c6:=HX.out.c6;have HBA:Hid (w.heap.size+1≤wr.heap.size):=Lib.hid (lt_of_block HX.out.bx.box);go_wp2_with (refine wpList_make_full _ rfl _ _ 34 rfl (w.heap.size+1) 4 i4 (.bool false) 1 Tryz.underlying34 HI.out.1 HI.out.2.1 HI.out.2.2.1 .i64 .i64 _ _ m.exprs.length rfl rfl rfl rfl HL2.out HL1.out HBA.out ?_);intro w2 hown hgrow;have HTk:Hid (Tk w CS h m wr.heap.size m.exprs.length (List.replicate m.exprs.length false) w2):=Lib.hid (by
        have hb2:Below wr.heap.size wr w2:=(Below.refl _ _).grown hgrow (Nat.le_refl _) (fun k hk=>by cases hk);refine ⟨HX.out.below hb2, ?_⟩;have e: (madeCells #[Value.bool false] m.exprs.length).toList=boolsV (List.replicate m.exprs.length false):=by
         unfold boolsV;rw [List.map_replicate];exact toList_madeCells_one _ _
        rw [←e];exact hown)
       clear hown hgrow c6;generalize expressionsL m=R at HV HG3;obtain ⟨r1,r2⟩:=R;have HR:Hid (∀a:Int,a=r1→false=r2→tablesF m= (3,a)):=Lib.hid fun a h1 h2=>by
        rw [HG3.out,←h1,←h2];rfl
       have HR0:Hid (true=r2→tablesF m= (0,0)):=Lib.hid fun h2=>by
        rw [HG3.out,←h2];rfl
       clear HG3;have HTT:Hid (w.heap.size+1≤wr.heap.size):=HBA;generalize wr.heap.size=T at HTk HTT ⊢;go_wp2_with fail
       go_loopw [9] (fun iv W=>∃ (k:Nat) (t:List Bool),iv= .int .i64 k∧k≤m.exprs.length∧Hid (exprsGo m (m.exprs.drop k) k t= (r1,r2))∧Hid (Tk w CS h m T m.exprs.length t W)) (fun iv _=>m.exprs.length - (intOf iv).toNat)
       case atStart=>exact ⟨0,_,rfl,by omega,HV,HTk⟩
       case round=>
        clear HV HTk HX;obtain ⟨k3,t,rfl,hk3,HGO,HE⟩:=hrel;have hk30: (0:Int)≤k3:=by omega
        have c6:=HE.out.mx.c6;by_cases hlx:k3 < m.exprs.length
        · have hlxi: (k3:Int) < m.exprs.length:=by omega
          obtain ⟨x,hx⟩:∃x,m.exprs[k3]? =some x:=⟨_,List.getElem?_eq_getElem hlx⟩;have hd:=mk_drop hx;have HGX:Hid ((if exprB m x=true then (if (takeAll k3 t (partsL x)).2=true then exprsGo m (m.exprs.drop (k3+1)) (k3+1) (takeAll k3 t (partsL x)).1 else ((k3:Int),false)) else ((k3:Int),false))= (r1,r2)):=Lib.hid (by
           have h0:=HGO.out;rw [hd] at h0;exact h0)
          have HEX:=Lib.hid (HE.out.mx.expression k3 x hx);have HXI:=Lib.hid hx;have HIS:Hid (dexprB m k3 x= (exprB m x && belowB k3 (partsL x))):=Lib.hid (expr_is (by omega) x);clear hd hx HGO;go_wp2_with (refine wpList_load_row rfl _ _ rfl _ rfl _ CS _ _ HE.out.mx.bx.box Tryz.underlying29 rfl HE.out.mx.info ?_);refine HEX.out.mono ?_;rintro e W3 ⟨rfl,hb3⟩;have HE3:=Lib.hid (HE.out.below hb3);clear hb3 HEX c6 HE;cases hde:dexprB m k3 x
          · have HZ:Hid (tablesF m= (3,(k3:Int))):=Lib.hid (by
             rw [HIS.out] at hde;have h0:=HGX.out;by_cases h1:exprB m x=true
             · rw [if_pos h1] at h0;have h2:¬ (takeAll k3 t (partsL x)).2=true:=fun h2=>by
                have h3:=take_below _ _ h2;rw [h1,h3] at hde;cases hde
               rw [if_neg h2] at h0;injection h0 with h4 h5
               exact HR.out _ h4 h5
             · rw [if_neg h1] at h0;injection h0 with h4 h5
               exact HR.out _ h4 h5)
            clear hde;go_wp2_with fail;go_ret2;exact ⟨HT.out _ _ HZ.out,HE3.out.mx.bx.bel⟩
          have hde2:exprB m x=true∧belowB k3 (partsL x)=true:=by
           rw [HIS.out,Bool.and_eq_true] at hde;exact hde
          have HG1:Hid ((if (takeAll k3 t (partsL x)).2=true then exprsGo m (m.exprs.drop (k3+1)) (k3+1) (takeAll k3 t (partsL x)).1 else ((k3:Int),false))= (r1,r2)):=Lib.hid (by have h0:=HGX.out;rw [if_pos hde2.1] at h0;exact h0);have hmem:x ∈ m.exprs:=List.mem_of_getElem? HXI.out;have hpl:=parts_len hde2.1 (HAB.out x hmem);have HOP:1≤x.op∧x.op≤39:=by
           have h1:=hde2.1;unfold exprB at h1;simp only [Bool.and_eq_true,decide_eq_true_eq] at h1;exact h1.1.1
          have HBL:=Lib.hid hde2.2;obtain ⟨ge,offe,hoe,hge,hxa⟩:=HE3.out.mx.md.exprs.get HXI.out;obtain ⟨vo,vc,ao,ac,mo,mc,hxc,hr1,hr2,hr3⟩:=hxa.xc;have HHE:=Lib.hid (heldH (B:=w.heap.size) x vo ao mo vc ac mc W3 HOP HE3.out.mx.bx.bel.size hr1 hr2 hpl);have c6:=HE3.out.mx.c6;rw [hoe] at c6;have e0:=hxc.c0;have e1:=hxc.c1;have e2:=hxc.c2;have e3:=hxc.c3;have e4:=hxc.c4;have e5:=hxc.v0;have e6:=hxc.v1;have e7:=hxc.v2;have e8:=hxc.v3;have e9:=hxc.v4;have e10:=hxc.c6;have e11:=hxc.c7;have HTL:=Lib.hid HE3.out.lt;have hpl2:=hpl;clear hde hde2 HGX HIS hmem hoe hge hxa hxc hr1 hr2 hr3 HOP hpl;go_wp2_with fail;refine HHE.out.mono ?_;rintro e W4 ⟨po,pc,rfl,⟨hrl,hge⟩,hb4⟩;have HE4:=Lib.hid (HE3.out.below hb4);obtain ⟨L,hL⟩:∃L,partsL x=L:=⟨_,rfl⟩;rw [hL] at hrl HG1 HBL hpl2;rw [hL];have HBLi:Hid (∀q (hq:q < L.length),0≤L[q]∧L[q] < (k3:Int)):=Lib.hid fun q hq=>by
           have h1:=HBL.out;unfold belowB at h1;exact of_decide_eq_true (List.all_eq_true.1 h1 _ (List.getElem_mem hq))
          have HLR:Hid (∀q (hq:q < L.length),∃g off,po=some ⟨g,off,none⟩∧g≠T∧LRow g off L W4):=Lib.hid fun q hq=>by
           obtain ⟨g,off,e1,h1,-⟩:=hrl.cell hq;refine ⟨g,off,e1, ?_,fun j hj=> ?_⟩
           · have:=hge g off e1;have:=HTL.out;omega
           · obtain ⟨g',off',e2,-,h2⟩:=hrl.cell hj;rw [e1] at e2;injection e2 with e2
             injection e2 with e2 e3
             subst e2 e3;unfold intAt at h2;rw [Nat.mul_one] at h2;exact h2
          clear hrl hge hb4 hL e0 e1 e2 e3 e4 e5 e6 e7 e8 e9 e10 e11 c6 HHE HBL HE3 HTL;have HJ0:Hid ((L.take 0).foldl (takePart k3) (t,true)= (t,true)):=Lib.hid rfl;have HL0:Hid (∀q (hq:q < L.length),∃g off,po=some ⟨g,off,none⟩∧g≠T∧LRow g off L W4):=HLR;go_wp2_with fail
          go_loopw [12] (fun jv W=>∃ (j:Nat) (tj:List Bool),jv= .int .i64 j∧j≤L.length∧Hid ((L.take j).foldl (takePart k3) (t,true)= (tj,true))∧Hid (Tk w CS h m T m.exprs.length tj W)∧Hid (∀q (hq:q < L.length),∃g off,po=some ⟨g,off,none⟩∧g≠T∧LRow g off L W)) (fun jv _=>L.length - (intOf jv).toNat)
          case atStart=>exact ⟨0,t,rfl,by omega,HJ0,HE4,HL0⟩
          case round=>
           clear HJ0 HL0 HLR HE4;obtain ⟨j,tj,rfl,hj,HJ,HE,HLR⟩:=hrel;have hj0: (0:Int)≤j:=by omega
           by_cases hlj:j < L.length
           · have hlji: (j:Int) < L.length:=by omega
             obtain ⟨gl,offl,hpo,hgT,hrow⟩:=HLR.out j hlj;have hbl:=HBLi.out j hlj;have cl:=hrow j hlj;obtain ⟨q,hq⟩:∃q:Nat,L[j]=q:=⟨L[j].toNat,by omega⟩;rw [hq] at cl hbl;have hqn:q < m.exprs.length:=by omega
             have hqni: (q:Int) < m.exprs.length:=by omega
             have hq0: (0:Int)≤q:=by omega
             have ct:=HE.out.cell hqn;have ft:wr.frozen? ⟨T,q,none⟩=false:=HE.out.row.frozenAt q;have HFO:Hid ((L.take (j+1)).foldl (takePart k3) (t,true)=takePart k3 (tj,true) q):=Lib.hid (by
              rw [List.take_succ_eq_append_getElem hlj,List.foldl_append,HJ.out,hq];rfl)
             have HFA:Hid (takeAll k3 t L= (L.drop (j+1)).foldl (takePart k3) (takePart k3 (tj,true) q)):=Lib.hid (by
              unfold takeAll
              conv=>lhs;rw [←List.take_append_drop (j+1) L]
              rw [List.foldl_append,HFO.out])
             obtain ⟨u,hu⟩:∃u,tj.getD q false=u:=⟨_,rfl⟩;rw [hu] at ct;have HYES:=Lib.hid (HE.out.yes q);have HLR2:Hid (∀q' (hq':q' < L.length),∃g off,po=some ⟨g,off,none⟩∧g≠T∧LRow g off L (wr.setCell ⟨T,q,none⟩ (.bool true))):=Lib.hid fun q' hq'=>⟨gl,offl,hpo,hgT,hrow.set T q _ hgT⟩
             have hpo2:∀n:Nat,Value.slice po n pc=Value.slice (some ⟨gl,offl,none⟩) n pc:=fun n=>by rw [hpo]
             have HUU:=Lib.hid hu;have HQB:=Lib.hid hbl;rw [hpo2];clear hpo hpo2 hrow hu hq hbl HLR hgT;cases u
             · have HTP:Hid (takePart k3 (tj,true) q= (tj.set q true,true)):=Lib.hid (by
                unfold takePart;rw [if_neg (by rw [Int.toNat_natCast,HUU.out];have:=HQB.out;simp;omega),Int.toNat_natCast])
               go_wp2_with fail;go_roundw;case rel=>exact ⟨j+1,tj.set q true,by go_num,by omega,Lib.hid (by rw [HFO.out,HTP.out]),HYES,HLR2⟩
               case measure=>simp [intOf];omega
             · have HZ:Hid (tablesF m= (3,(k3:Int))):=Lib.hid (by
                have h0:=HG1.out;have h1:takePart k3 (tj,true) q= (tj,false):=by
                 unfold takePart;rw [if_pos (by rw [Int.toNat_natCast];exact .inr (.inr HUU.out))]
                rw [if_neg (by rw [HFA.out,h1,take_no];simp)] at h0;injection h0 with h4 h5
                exact HR.out _ h4 h5)
               go_wp2_with fail;go_ret2;exact ⟨HT.out _ _ HZ.out,HE.out.mx.bx.bel⟩
           · have hlji:¬ (j:Int) < L.length:=by omega
             have HN:Hid (exprsGo m (m.exprs.drop (k3+1)) (k3+1) tj= (r1,r2)):=Lib.hid (by
              have h0:=HG1.out;have h1:takeAll k3 t L= (tj,true):=by
               have h2:=HJ.out;rw [List.take_of_length_le (by omega)] at h2;exact h2
              rw [h1,if_pos rfl] at h0;exact h0)
             go_wp2_with fail;go_roundw;case rel=>exact ⟨k3+1,tj,by go_num,by omega,HN,HE⟩
             case measure=>simp [intOf];omega
        · have hlxi:¬ (k3:Int) < m.exprs.length:=by omega
          have HZ:Hid (tablesF m= (0,0)):=Lib.hid (HR0.out (by
           have h0:=HGO.out;rw [List.drop_eq_nil_of_le (by omega)] at h0;unfold exprsGo at h0;injection h0 with h1 h2))
          go_wp2_with fail;go_ret2;exact ⟨HT.out _ _ HZ.out,HE.out.mx.bx.bel⟩
end Go.Proofs.YthfldokfnjpkmaaGreatDoor
