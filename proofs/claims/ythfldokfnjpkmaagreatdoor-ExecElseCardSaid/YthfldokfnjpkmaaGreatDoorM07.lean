/- A proctype's places. -/
import Derived.Test.YthfldokfnjpkmaaGreatDoorM06
set_option linter.unusedVariables false
set_option linter.unusedSimpArgs false
namespace Go.Proofs.YthfldokfnjpkmaaGreatDoor
open Go.ChangeShapes Go.WideShapes Go.ChangeAt Go.RowKit
def lstB (n idx:Nat) (l:List TransD):Bool:=(decide (idx=0) || decide (l.length≠0)) && l.all (toB n)
theorem loc_lists {p:ProcD} {i:Nat} {l:LocD} (h1:locHeadB p i l=true) (h2:∀j (hj:j < (l.out :: l.esc).length),lstB p.locs.length j (l.out :: l.esc)[j]=true):locB p i l=true:=by
 unfold locB;rw [h1];have h3:=h2 0 (by simp);simp only [List.getElem_cons_zero] at h3;have h4:l.out.all (toB p.locs.length)=true:=by unfold lstB at h3;simpa using h3
 rw [h4];rw [all_of fun j hj=> ?_]
 · rfl
 · have h5:=h2 (j+1) (by simpa using hj);simp only [List.getElem_cons_succ] at h5;unfold lstB at h5;unfold escB;simpa using h5
theorem loc_list_bad {p:ProcD} {i j:Nat} {l:LocD} (hj:j < (l.out :: l.esc).length) (h:lstB p.locs.length j (l.out :: l.esc)[j]=false):locB p i l=false:=by
 unfold locB;cases j with
 | zero=>
   simp only [List.getElem_cons_zero] at h;have h4:l.out.all (toB p.locs.length)=false:=by unfold lstB at h;simpa using h
   rw [h4];simp
 | succ j=>
   simp only [List.getElem_cons_succ] at h;rw [show l.esc.all (escB p.locs.length)=false from all_bad (by simpa using hj) (by unfold lstB at h;unfold escB;simpa using h)];simp
theorem lst_lt {α:Type} {l:List α} {j:Nat} {x:α} (h:l[j]? =some x):j < l.length:=(List.getElem?_eq_some_iff.1 h).1
theorem lst_eq {α:Type} {l:List α} {j:Nat} {x:α} (h:l[j]? =some x) {hj:j < l.length}:l[j]=x:=(List.getElem?_eq_some_iff.1 h).2
def lensUpto (l:LocD) (j:Nat):Nat:=(((l.out :: l.esc).take j).map List.length).sum
theorem lens_succ {l:LocD} {j:Nat} {t:List TransD} (h: (l.out :: l.esc)[j]? =some t):lensUpto l (j+1)=lensUpto l j+t.length:=by
 unfold lensUpto;obtain ⟨hj,rfl⟩:=List.getElem?_eq_some_iff.1 h;rw [List.take_succ_eq_append_getElem hj,List.map_append,List.sum_append];simp only [List.map_cons,List.map_nil,List.sum_cons,List.sum_nil,Nat.add_zero]
theorem lens_all (l:LocD):lensUpto l (l.esc.length+1)=manyL l:=by
 unfold lensUpto manyL;rw [List.take_of_length_le (by simp)];simp
theorem zipIdx_get {α:Type} {l:List α} {i:Nat} (hi:i < l.length):∃h:i < l.zipIdx.length,l.zipIdx[i]= (l[i],i):=⟨by simpa using hi,by simp⟩
theorem manyP_succ {p:ProcD} {i:Nat} {l:LocD} (h:p.locs[i]? =some l): ((p.locs.take (i+1)).map manyL).sum= ((p.locs.take i).map manyL).sum+manyL l:=by
 obtain ⟨hj,rfl⟩:=List.getElem?_eq_some_iff.1 h;rw [List.take_succ_eq_append_getElem hj,List.map_append,List.sum_append];simp only [List.map_cons,List.map_nil,List.sum_cons,List.sum_nil,Nat.add_zero]
set_option maxHeartbeats 8000000 in
set_option maxRecDepth 100000 in
theorem placesC {B:Nat} (pv:Value) (fo io lo:Option Addr) (fc ic lc:Nat) (p:ProcD) (w:World) (hB:B≤w.heap.size) (hl:Row B lo 7 (locAt B w) p.locs):
 Calls Tryz.prog 175 #[pv,.agg #[.string p.name,.int .i64 p.params,.slice fo p.frame.length fc,.slice io p.init.length ic,.slice lo p.locs.length lc,.int .i64 p.start,.int .i64 p.final,.int .i64 p.active,.int .i64 p.prio,.int .i64 p.provided]] w fun e w'=>e= .returned (.bool (placesB p))∧Below w.heap.size w w':=by
 have HL:=Lib.hid hl;have l1:=hl.1;have HX:=Lib.hid (Bx.new w #[.string p.name,.int .i64 p.params,.slice fo p.frame.length fc,.slice io p.init.length ic,.slice lo p.locs.length lc,.int .i64 p.start,.int .i64 p.final,.int .i64 p.active,.int .i64 p.prio,.int .i64 p.provided] 73);clear hl;by_cases hbad:p.locs.length < 1∨256 < p.locs.length∨p.start < 0∨ (p.locs.length:Int)≤p.start∨p.final < 0∨ (p.locs.length:Int)≤p.final
 · have HV:Hid (placesB p=false):=Lib.hid (by unfold placesB placesHeadB;rw [decide_eq_true (by exact hbad)];rfl);go_enter Tryz.func175,Tryz.ntmps175;go_wp2
   all_goals first | (exfalso;omega) | (go_ret;exact ⟨retB HV.out.symm,HX.out.bel⟩)
 · have HV:Hid (placesB p= (p.locs.zipIdx.all (locB' p) && decide (manyP p≤1024))):=Lib.hid (by unfold placesB placesHeadB;rw [decide_eq_false (by exact hbad)];simp);have g1:¬p.locs.length < 1:=fun h=>hbad (.inl h)
   have g2:¬256 < p.locs.length:=fun h=>hbad (.inr (.inl h))
   have g3:¬p.start < 0:=fun h=>hbad (.inr (.inr (.inl h)))
   have g4:¬ (p.locs.length:Int)≤p.start:=fun h=>hbad (.inr (.inr (.inr (.inl h))))
   have g5:¬p.final < 0:=fun h=>hbad (.inr (.inr (.inr (.inr (.inl h)))))
   have g6:¬ (p.locs.length:Int)≤p.final:=fun h=>hbad (.inr (.inr (.inr (.inr (.inr h)))))
   clear hbad;go_enter Tryz.func175,Tryz.ntmps175;go_wp2_with fail;generalize w.alloc (Obj.cells #[.string p.name,.int .i64 p.params,.slice fo p.frame.length fc,.slice io p.init.length ic,.slice lo p.locs.length lc,.int .i64 p.start,.int .i64 p.final,.int .i64 p.active,.int .i64 p.prio,.int .i64 p.provided] 73)=W0 at HX ⊢
   go_loopw [6,47] (fun sv iv W=>∃ (i s:Nat),iv= .int .i64 i∧sv= .int .i64 s∧i≤p.locs.length∧s≤i*1266637395197952∧Hid (s= ((p.locs.take i).map manyL).sum)∧Hid (∀j (hj:j < p.locs.zipIdx.length),j < i→locB' p p.locs.zipIdx[j]=true)∧Hid (Bx w #[.string p.name,.int .i64 p.params,.slice fo p.frame.length fc,.slice io p.init.length ic,.slice lo p.locs.length lc,.int .i64 p.start,.int .i64 p.final,.int .i64 p.active,.int .i64 p.prio,.int .i64 p.provided] 73 W)) (fun _ iv _=>p.locs.length - (intOf iv).toNat)
   case atStart=>exact ⟨0,0,rfl,rfl,by omega,by omega,Lib.hid rfl,Lib.hid fun j _ h=>by omega,HX⟩
   case round=>
    clear HX;obtain ⟨i,s,rfl,rfl,hi,hs,HS,HJ,HB⟩:=hrel;have hi0: (0:Int)≤i:=by omega
    by_cases hlt:i < p.locs.length
    · have hlti: (i:Int) < p.locs.length:=by omega
      obtain ⟨l,hgl⟩:∃l,p.locs[i]? =some l:=⟨_,List.getElem?_eq_getElem hlt⟩;obtain ⟨hz,hzip⟩:=zipIdx_get hlt;have hzl:p.locs.zipIdx[i]= (l,i):=by rw [hzip];obtain ⟨_,h⟩:=List.getElem?_eq_some_iff.1 hgl;rw [h]
      have HLW:Hid (∀W',Below w.heap.size w W'→Row B lo 7 (locAt B W') p.locs):=Lib.hid fun W' hb=>HL.out.mono fun _ _ _ hg=>locAt.below (hb.mono hB) hg
      have HBAD:Hid (locB p i l=false→placesB p=false):=Lib.hid fun h=>by
       rw [HV.out,all_bad hz (by rw [hzl];exact h)];rfl
      have HGO:Hid (locB p i l=true→∀j (hj:j < p.locs.zipIdx.length),j < i+1→locB' p p.locs.zipIdx[j]=true):=Lib.hid fun h j hj hjk=>by
       by_cases e:j=i
       · subst e;rw [hzl];exact h
       · exact HJ.out j hj (by omega)
      have HSN:Hid (s+manyL l= ((p.locs.take (i+1)).map manyL).sum):=Lib.hid (by rw [manyP_succ hgl,HS.out]);obtain ⟨g,off,hog,hgB,hla⟩:=(HLW.out _ HB.out.bel).get hgl;obtain ⟨oo,oc,o1,hor⟩:=hla.out;obtain ⟨eo,ec,e1,her⟩:=hla.esc;have f2:=hla.c2;have f3:=hla.c3;have f4:=hla.c4;have f5:=hla.c5;have f6:=hla.c6;have HBB:Hid (∀o,Bx w #[.string p.name,.int .i64 p.params,.slice fo p.frame.length fc,.slice io p.init.length ic,.slice lo p.locs.length lc,.int .i64 p.start,.int .i64 p.final,.int .i64 p.active,.int .i64 p.prio,.int .i64 p.provided] 73 (wr.alloc o)):=Lib.hid fun o=>HB.out.below (ball o)
      have b6:∀o,(wr.alloc o).cell? ⟨w.heap.size,6,none⟩=some (.int .i64 p.final):=fun o=>(HBB.out o).cell rfl
      have HRR:=Lib.hid (And.intro hor her);have ho1:=hor.1;have he1:=her.1;have HHD:Hid (locHeadB p i l= !(decide (8 < l.esc.length∨ (l.dstep=true∧l.atomic=true)∨ ((i:Int)=p.final∧ (0 < l.out.length∨0 < l.esc.length))))):=Lib.hid rfl;obtain ⟨lout,lesc,la,ld,lf,lac,lpr⟩:=l;simp only at o1 e1 f2 f3 f4 f5 f6 ho1 he1 HHD;subst hog;have hXL:=Lib.hid (Bx.new wr #[.slice oo lout.length oc,.slice eo lesc.length ec,.bool la,.bool ld,.bool lf,.bool lac,.bool lpr] 70);clear hla hgl hz hzip hzl hor her;by_cases hh:8 < lesc.length∨ (ld=true∧la=true)∨ ((i:Int)=p.final∧ (0 < lout.length∨0 < lesc.length))
      · have HZ:=Lib.hid (HBAD.out (by unfold locB;rw [HHD.out,decide_eq_true (by exact hh)];rfl));by_cases h8:8 < lesc.length
        · clear hh;go_wp2_with fail;go_ret;exact ⟨retB HZ.out.symm,(HBB.out _).bel⟩
        · by_cases hda:ld=true∧la=true
          · obtain ⟨rfl,rfl⟩:=hda;clear hh;go_wp2_with fail;go_ret;exact ⟨retB HZ.out.symm,(HBB.out _).bel⟩
          · have hf: (i:Int)=p.final∧ (0 < lout.length∨0 < lesc.length):=by
             rcases hh with h | h | h
             · exact absurd h h8
             · exact absurd h hda
             · exact h
            have hfb: ((i:Int) == p.final)=true:=by rw [beq_iff_eq];exact hf.1
            have hdd: (ld=false)∨ (ld=true∧la=false):=by cases ld <;> cases la <;> simp at hda ⊢
            have hff:0 < lout.length∨ (¬0 < lout.length∧0 < lesc.length):=by
             have h2:=hf.2;omega
            clear hh hda hf;rcases hdd with rfl | ⟨rfl,rfl⟩
            all_goals (
             rcases hff with hf1 | ⟨hf0,hf1⟩
             all_goals (
              go_wp2_with fail;go_ret;exact ⟨retB HZ.out.symm,(HBB.out _).bel⟩))
      · have HHT:Hid (locHeadB p i ⟨lout,lesc,la,ld,lf,lac,lpr⟩=true):=Lib.hid (by rw [HHD.out,decide_eq_false (by exact hh)];rfl);have h8:¬8 < lesc.length:=fun h=>hh (.inl h)
        have hdd: (ld=false)∨ (ld=true∧la=false):=by
         have h2:¬ (ld=true∧la=true):=fun h=>hh (.inr (.inl h))
         cases ld <;> cases la <;> simp at h2 ⊢
        have hff: (((i:Int) == p.final)=true∧¬0 < lout.length∧¬0 < lesc.length)∨ ((i:Int) == p.final)=false:=by
         by_cases hf: (i:Int)=p.final
         · exact .inl ⟨by rw [beq_iff_eq];exact hf,fun h=>hh (.inr (.inr ⟨hf,.inl h⟩)),fun h=>hh (.inr (.inr ⟨hf,.inr h⟩))⟩
         · exact .inr (by rw [beq_eq_false_iff_ne];exact hf)
        clear hh;rcases hdd with rfl | ⟨rfl,rfl⟩
        · rcases hff with ⟨hfb,hz1,hz2⟩ | hfb
          · obtain rfl:lout= []:=List.eq_nil_of_length_eq_zero (by omega);obtain rfl:lesc= []:=List.eq_nil_of_length_eq_zero (by omega);have HOK:=Lib.hid (HGO.out (loc_lists HHT.out (fun j hj=>by
             obtain rfl:j=0:=by have h9:j < [([]:List TransD)].length:=hj;simp at h9;omega
             rfl)))
            have HSF:Hid (s= ((p.locs.take (i+1)).map manyL).sum):=Lib.hid (by have:=HSN.out;unfold manyL at this ⊢;simpa using this);have HBW:=Lib.hid (HBB.out (Obj.cells #[.slice oo 0 oc,.slice eo 0 ec,.bool la,.bool false,.bool lf,.bool lac,.bool lpr] 70));simp only [List.length_nil] at hz1 hz2 h8 ho1 he1 o1 e1 hXL ⊢;clear hz1 hz2 ho1 he1 h8;go_wp2_with fail;refine wp_loop_rounds 2 ?_;rw [rounds_succ];go_wp2_with fail;refine wp_loop_rounds 1 ?_;rw [rounds_succ];go_wp2_with fail;rw [rounds_succ];go_wp2_with fail;go_roundw;case rel=>exact ⟨i+1,s,by go_num,by first | rfl | simp,by omega,Nat.le_trans hs (Nat.mul_le_mul_right _ (Nat.le_succ i)),HSF,HOK,HBW⟩
            case measure=>simp [intOf];omega
          · (
            go_wp2_with fail;clear f2 f3 f4 f5 f6 o1 e1 b6;have HBW:=Lib.hid (HBB.out (Obj.cells #[.slice oo lout.length oc,.slice eo lesc.length ec,.bool la,.bool false,.bool lf,.bool lac,.bool lpr] 70));have HRW:Hid (Row B oo 9 (transAt B (wr.alloc (Obj.cells #[.slice oo lout.length oc,.slice eo lesc.length ec,.bool la,.bool false,.bool lf,.bool lac,.bool lpr] 70))) lout∧Row B eo 1 (escAt B (wr.alloc (Obj.cells #[.slice oo lout.length oc,.slice eo lesc.length ec,.bool la,.bool false,.bool lf,.bool lac,.bool lpr] 70))) lesc):=Lib.hid (by
             have hbb:Below B wr (wr.alloc (Obj.cells #[.slice oo lout.length oc,.slice eo lesc.length ec,.bool la,.bool false,.bool lf,.bool lac,.bool lpr] 70)):=(ball _).mono (by have:=HB.out.bel.size;omega);exact ⟨HRR.out.1.mono fun _ _ _ hg=>transAt.below hbb hg,HRR.out.2.mono fun _ _ _ hg=>escAt.below hbb hg⟩)
            generalize wr.alloc (Obj.cells #[.slice oo lout.length oc,.slice eo lesc.length ec,.bool la,.bool false,.bool lf,.bool lac,.bool lpr] 70)=W at hXL HBW HRW ⊢
            go_loop [6,9] (fun sv jv=>∃ (jj s':Nat) (z:Int),jv= .int .i64 z∧sv= .int .i64 s'∧ -1≤z∧z < jj∧ (jj:Int)≤z+1∧jj≤lesc.length+1∧s'≤s+jj*140737488355328∧Hid (s'=s+lensUpto ⟨lout,lesc,la,false,lf,lac,lpr⟩ jj)∧Hid (∀j (hj:j < (lout :: lesc).length),j < jj→lstB p.locs.length j (lout :: lesc)[j]=true)) (fun _ jv=>((lesc.length:Int) - intOf jv).toNat)
            case atStart=>exact ⟨0,s,-1,rfl,rfl,by omega,by omega,by omega,by omega,by omega,Lib.hid rfl,Lib.hid fun j _ h=>by omega⟩
            case round=>
             obtain ⟨jj,s',z,rfl,rfl,z1,z2,z3,z4,z5,HSS,HLI⟩:=hrel;have a0:W.cell? ⟨wr.heap.size,0,none⟩=some (.slice oo lout.length oc):=hXL.out.cell rfl;have a1:W.cell? ⟨wr.heap.size,1,none⟩=some (.slice eo lesc.length ec):=hXL.out.cell rfl;by_cases hjl:z < lesc.length
             · by_cases hz0:z < 0
               · have hz9:¬0≤z:=by omega
                 have hjj:jj=0:=by omega
                 have HGL:Hid ((lout :: lesc)[jj]? =some lout):=Lib.hid (by rw [hjj];rfl);have HNE0:=Lib.hid hjj;have hrt:Row B oo 9 (transAt B W) lout:=HRW.out.1;clear hjj;have HRT:Hid (Row B oo 9 (transAt B W) lout):=Lib.hid hrt;have hln:=hrt.1;have hsb:s'+lout.length≤s+ (jj+1)*140737488355328:=by omega
                 clear hrt;go_wp2_with fail
                 go_loop [111] (fun kv=>∃k:Nat,kv= .int .i64 k∧k≤lout.length∧Hid (∀j (hj:j < lout.length),j < k→toB p.locs.length lout[j]=true)) (fun kv=>lout.length - (intOf kv).toNat)
                 case atStart=>exact ⟨0,rfl,by omega,Lib.hid fun j _ h=>by omega⟩
                 case round=>
                  obtain ⟨k,rfl,hk,HT⟩:=hrel;have hk0: (0:Int)≤k:=by omega
                  by_cases hkl:k < lout.length
                  · have hkli: (k:Int) < lout.length:=by omega
                    obtain ⟨gt,offt,hot,hgt,hta⟩:=HRT.out.cell hkl;subst hot;obtain ⟨q,hq⟩:∃q,lout[k].to=q:=⟨_,rfl⟩;have hc7:=hta.c7;rw [hq] at hc7;have HTB:Hid (toB p.locs.length lout[k]=decide (0≤q∧q < p.locs.length)):=Lib.hid (by unfold toB;rw [hq]);clear hta hq;by_cases hok:0≤q∧q < p.locs.length
                    · have HOK:Hid (toB p.locs.length lout[k]=true):=Lib.hid (by rw [HTB.out];exact decide_eq_true hok);obtain ⟨ho1,ho2⟩:=hok;go_wp2_with fail;go_round;case rel=>exact ⟨k+1,by go_num,by omega,Lib.hid fun j hj hjk=>by
                       by_cases e:j=k
                       · subst e;exact HOK.out
                       · exact HT.out j hj (by omega)⟩
                      case measure=>simp [intOf];omega
                    · have HZ:=Lib.hid (HBAD.out (loc_list_bad (j:=jj) (lst_lt HGL.out) (by rw [lst_eq HGL.out];unfold lstB;rw [all_bad hkl (by rw [HTB.out];exact decide_eq_false hok)];simp)));go_wp2
                      all_goals first | (exfalso;omega) | (go_ret;exact ⟨retB HZ.out.symm,HBW.out.bel⟩)
                  · have hkli:¬ (k:Int) < lout.length:=by omega
                    have HOK:Hid (∀j (hj:j < (lout :: lesc).length),j < jj+1→lstB p.locs.length j (lout :: lesc)[j]=true):=Lib.hid fun j hj hjk=>by
                     by_cases e:j=jj
                     · subst e;rw [lst_eq HGL.out];unfold lstB;rw [all_of fun j hj=>HT.out j hj (by omega)];simp [HNE0.out]
                     · exact HLI.out j hj (by omega)
                    have HSU:Hid (s'+lout.length=s+lensUpto ⟨lout,lesc,la,false,lf,lac,lpr⟩ (jj+1)):=Lib.hid (by rw [lens_succ HGL.out,HSS.out];omega);go_wp2_with fail;go_round;case rel=>exact ⟨jj+1,s'+lout.length,z+1,by go_num,by go_num,by omega,by omega,by omega,by omega,by omega,HSU,HOK⟩
                    case measure=>simp [intOf];omega
               · have hz9:0≤z:=by omega
                 obtain ⟨je,hje⟩:∃je:Nat,z=je:=⟨z.toNat,by omega⟩;have hjel:je < lesc.length:=by omega
                 obtain ⟨ge,offe,hoe,hge,to,tcp,hca,hrt⟩:=HRW.out.2.cell hjel;obtain ⟨lst,hlst⟩:∃lst,lesc[je]=lst:=⟨_,rfl⟩;rw [hlst] at hca hrt;rw [Nat.mul_one] at hca;have HGL:Hid ((lout :: lesc)[jj]? =some lst):=Lib.hid (by
                  obtain rfl:jj=je+1:=by omega
                  rw [List.getElem?_cons_succ,List.getElem?_eq_getElem hjel,hlst])
                 have HJ1:Hid (1≤jj):=Lib.hid (by omega);subst hoe;subst hje;clear hlst;by_cases hle:lst.length=0
                 · have HZ:=Lib.hid (HBAD.out (loc_list_bad (j:=jj) (lst_lt HGL.out) (by have:=HJ1.out;rw [lst_eq HGL.out];unfold lstB;rw [decide_eq_false (by omega),decide_eq_false (by omega)];rfl)));have hleb: ((lst.length:Int) == 0)=true:=by rw [beq_iff_eq];omega
                   clear hle hrt;go_wp2_with fail;go_ret;exact ⟨retB HZ.out.symm,HBW.out.bel⟩
                 · have hleb: ((lst.length:Int) == 0)=false:=by rw [beq_eq_false_iff_ne];omega
                   have HNZ:=Lib.hid hle;clear hle;have HRT:Hid (Row B to 9 (transAt B W) lst):=Lib.hid hrt;have hln:=hrt.1;have hsb:s'+lst.length≤s+ (jj+1)*140737488355328:=by omega
                   clear hrt;go_wp2_with fail
                   go_loop [111] (fun kv=>∃k:Nat,kv= .int .i64 k∧k≤lst.length∧Hid (∀j (hj:j < lst.length),j < k→toB p.locs.length lst[j]=true)) (fun kv=>lst.length - (intOf kv).toNat)
                   case atStart=>exact ⟨0,rfl,by omega,Lib.hid fun j _ h=>by omega⟩
                   case round=>
                    obtain ⟨k,rfl,hk,HT⟩:=hrel;have hk0: (0:Int)≤k:=by omega
                    by_cases hkl:k < lst.length
                    · have hkli: (k:Int) < lst.length:=by omega
                      obtain ⟨gt,offt,hot,hgt,hta⟩:=HRT.out.cell hkl;subst hot;obtain ⟨q,hq⟩:∃q,lst[k].to=q:=⟨_,rfl⟩;have hc7:=hta.c7;rw [hq] at hc7;have HTB:Hid (toB p.locs.length lst[k]=decide (0≤q∧q < p.locs.length)):=Lib.hid (by unfold toB;rw [hq]);clear hta hq;by_cases hok:0≤q∧q < p.locs.length
                      · have HOK:Hid (toB p.locs.length lst[k]=true):=Lib.hid (by rw [HTB.out];exact decide_eq_true hok);obtain ⟨ho1,ho2⟩:=hok;go_wp2_with fail;go_round;case rel=>exact ⟨k+1,by go_num,by omega,Lib.hid fun j hj hjk=>by
                         by_cases e:j=k
                         · subst e;exact HOK.out
                         · exact HT.out j hj (by omega)⟩
                        case measure=>simp [intOf];omega
                      · have HZ:=Lib.hid (HBAD.out (loc_list_bad (j:=jj) (lst_lt HGL.out) (by rw [lst_eq HGL.out];unfold lstB;rw [all_bad hkl (by rw [HTB.out];exact decide_eq_false hok)];simp)));go_wp2
                        all_goals first | (exfalso;omega) | (go_ret;exact ⟨retB HZ.out.symm,HBW.out.bel⟩)
                    · have hkli:¬ (k:Int) < lst.length:=by omega
                      have HOK:Hid (∀j (hj:j < (lout :: lesc).length),j < jj+1→lstB p.locs.length j (lout :: lesc)[j]=true):=Lib.hid fun j hj hjk=>by
                       by_cases e:j=jj
                       · subst e;rw [lst_eq HGL.out];unfold lstB;rw [all_of fun j hj=>HT.out j hj (by omega)];simp [HNZ.out]
                       · exact HLI.out j hj (by omega)
                      have HSU:Hid (s'+lst.length=s+lensUpto ⟨lout,lesc,la,false,lf,lac,lpr⟩ (jj+1)):=Lib.hid (by rw [lens_succ HGL.out,HSS.out];omega);go_wp2_with fail;go_round;case rel=>exact ⟨jj+1,s'+lst.length,(je:Int)+1,by go_num,by go_num,by omega,by omega,by omega,by omega,by omega,HSU,HOK⟩
                      case measure=>simp [intOf];omega
             · have HOK:=Lib.hid (HGO.out (loc_lists HHT.out (fun j hj=>HLI.out j hj (by have h9:j < (lout :: lesc).length:=hj;simp only [List.length_cons] at h9;omega))));obtain rfl:jj=lesc.length+1:=by omega
               have HSF:Hid (s'= ((p.locs.take (i+1)).map manyL).sum):=Lib.hid (by rw [HSS.out,lens_all];exact HSN.out);go_wp2_with fail;go_roundw;case rel=>exact ⟨i+1,s',by go_num,rfl,by omega,by omega,HSF,HOK,HBW⟩
               case measure=>simp [intOf];omega)
        · rcases hff with ⟨hfb,hz1,hz2⟩ | hfb
          · obtain rfl:lout= []:=List.eq_nil_of_length_eq_zero (by omega);obtain rfl:lesc= []:=List.eq_nil_of_length_eq_zero (by omega);have HOK:=Lib.hid (HGO.out (loc_lists HHT.out (fun j hj=>by
             obtain rfl:j=0:=by have h9:j < [([]:List TransD)].length:=hj;simp at h9;omega
             rfl)))
            have HSF:Hid (s= ((p.locs.take (i+1)).map manyL).sum):=Lib.hid (by have:=HSN.out;unfold manyL at this ⊢;simpa using this);have HBW:=Lib.hid (HBB.out (Obj.cells #[.slice oo 0 oc,.slice eo 0 ec,.bool false,.bool true,.bool lf,.bool lac,.bool lpr] 70));simp only [List.length_nil] at hz1 hz2 h8 ho1 he1 o1 e1 hXL ⊢;clear hz1 hz2 ho1 he1 h8;go_wp2_with fail;refine wp_loop_rounds 2 ?_;rw [rounds_succ];go_wp2_with fail;refine wp_loop_rounds 1 ?_;rw [rounds_succ];go_wp2_with fail;rw [rounds_succ];go_wp2_with fail;go_roundw;case rel=>exact ⟨i+1,s,by go_num,by first | rfl | simp,by omega,Nat.le_trans hs (Nat.mul_le_mul_right _ (Nat.le_succ i)),HSF,HOK,HBW⟩
            case measure=>simp [intOf];omega
          · (
            go_wp2_with fail;clear f2 f3 f4 f5 f6 o1 e1 b6;have HBW:=Lib.hid (HBB.out (Obj.cells #[.slice oo lout.length oc,.slice eo lesc.length ec,.bool false,.bool true,.bool lf,.bool lac,.bool lpr] 70));have HRW:Hid (Row B oo 9 (transAt B (wr.alloc (Obj.cells #[.slice oo lout.length oc,.slice eo lesc.length ec,.bool false,.bool true,.bool lf,.bool lac,.bool lpr] 70))) lout∧Row B eo 1 (escAt B (wr.alloc (Obj.cells #[.slice oo lout.length oc,.slice eo lesc.length ec,.bool false,.bool true,.bool lf,.bool lac,.bool lpr] 70))) lesc):=Lib.hid (by
             have hbb:Below B wr (wr.alloc (Obj.cells #[.slice oo lout.length oc,.slice eo lesc.length ec,.bool false,.bool true,.bool lf,.bool lac,.bool lpr] 70)):=(ball _).mono (by have:=HB.out.bel.size;omega);exact ⟨HRR.out.1.mono fun _ _ _ hg=>transAt.below hbb hg,HRR.out.2.mono fun _ _ _ hg=>escAt.below hbb hg⟩)
            generalize wr.alloc (Obj.cells #[.slice oo lout.length oc,.slice eo lesc.length ec,.bool false,.bool true,.bool lf,.bool lac,.bool lpr] 70)=W at hXL HBW HRW ⊢
            go_loop [6,9] (fun sv jv=>∃ (jj s':Nat) (z:Int),jv= .int .i64 z∧sv= .int .i64 s'∧ -1≤z∧z < jj∧ (jj:Int)≤z+1∧jj≤lesc.length+1∧s'≤s+jj*140737488355328∧Hid (s'=s+lensUpto ⟨lout,lesc,false,true,lf,lac,lpr⟩ jj)∧Hid (∀j (hj:j < (lout :: lesc).length),j < jj→lstB p.locs.length j (lout :: lesc)[j]=true)) (fun _ jv=>((lesc.length:Int) - intOf jv).toNat)
            case atStart=>exact ⟨0,s,-1,rfl,rfl,by omega,by omega,by omega,by omega,by omega,Lib.hid rfl,Lib.hid fun j _ h=>by omega⟩
            case round=>
             obtain ⟨jj,s',z,rfl,rfl,z1,z2,z3,z4,z5,HSS,HLI⟩:=hrel;have a0:W.cell? ⟨wr.heap.size,0,none⟩=some (.slice oo lout.length oc):=hXL.out.cell rfl;have a1:W.cell? ⟨wr.heap.size,1,none⟩=some (.slice eo lesc.length ec):=hXL.out.cell rfl;by_cases hjl:z < lesc.length
             · by_cases hz0:z < 0
               · have hz9:¬0≤z:=by omega
                 have hjj:jj=0:=by omega
                 have HGL:Hid ((lout :: lesc)[jj]? =some lout):=Lib.hid (by rw [hjj];rfl);have HNE0:=Lib.hid hjj;have hrt:Row B oo 9 (transAt B W) lout:=HRW.out.1;clear hjj;have HRT:Hid (Row B oo 9 (transAt B W) lout):=Lib.hid hrt;have hln:=hrt.1;have hsb:s'+lout.length≤s+ (jj+1)*140737488355328:=by omega
                 clear hrt;go_wp2_with fail
                 go_loop [111] (fun kv=>∃k:Nat,kv= .int .i64 k∧k≤lout.length∧Hid (∀j (hj:j < lout.length),j < k→toB p.locs.length lout[j]=true)) (fun kv=>lout.length - (intOf kv).toNat)
                 case atStart=>exact ⟨0,rfl,by omega,Lib.hid fun j _ h=>by omega⟩
                 case round=>
                  obtain ⟨k,rfl,hk,HT⟩:=hrel;have hk0: (0:Int)≤k:=by omega
                  by_cases hkl:k < lout.length
                  · have hkli: (k:Int) < lout.length:=by omega
                    obtain ⟨gt,offt,hot,hgt,hta⟩:=HRT.out.cell hkl;subst hot;obtain ⟨q,hq⟩:∃q,lout[k].to=q:=⟨_,rfl⟩;have hc7:=hta.c7;rw [hq] at hc7;have HTB:Hid (toB p.locs.length lout[k]=decide (0≤q∧q < p.locs.length)):=Lib.hid (by unfold toB;rw [hq]);clear hta hq;by_cases hok:0≤q∧q < p.locs.length
                    · have HOK:Hid (toB p.locs.length lout[k]=true):=Lib.hid (by rw [HTB.out];exact decide_eq_true hok);obtain ⟨ho1,ho2⟩:=hok;go_wp2_with fail;go_round;case rel=>exact ⟨k+1,by go_num,by omega,Lib.hid fun j hj hjk=>by
                       by_cases e:j=k
                       · subst e;exact HOK.out
                       · exact HT.out j hj (by omega)⟩
                      case measure=>simp [intOf];omega
                    · have HZ:=Lib.hid (HBAD.out (loc_list_bad (j:=jj) (lst_lt HGL.out) (by rw [lst_eq HGL.out];unfold lstB;rw [all_bad hkl (by rw [HTB.out];exact decide_eq_false hok)];simp)));go_wp2
                      all_goals first | (exfalso;omega) | (go_ret;exact ⟨retB HZ.out.symm,HBW.out.bel⟩)
                  · have hkli:¬ (k:Int) < lout.length:=by omega
                    have HOK:Hid (∀j (hj:j < (lout :: lesc).length),j < jj+1→lstB p.locs.length j (lout :: lesc)[j]=true):=Lib.hid fun j hj hjk=>by
                     by_cases e:j=jj
                     · subst e;rw [lst_eq HGL.out];unfold lstB;rw [all_of fun j hj=>HT.out j hj (by omega)];simp [HNE0.out]
                     · exact HLI.out j hj (by omega)
                    have HSU:Hid (s'+lout.length=s+lensUpto ⟨lout,lesc,false,true,lf,lac,lpr⟩ (jj+1)):=Lib.hid (by rw [lens_succ HGL.out,HSS.out];omega);go_wp2_with fail;go_round;case rel=>exact ⟨jj+1,s'+lout.length,z+1,by go_num,by go_num,by omega,by omega,by omega,by omega,by omega,HSU,HOK⟩
                    case measure=>simp [intOf];omega
               · have hz9:0≤z:=by omega
                 obtain ⟨je,hje⟩:∃je:Nat,z=je:=⟨z.toNat,by omega⟩;have hjel:je < lesc.length:=by omega
                 obtain ⟨ge,offe,hoe,hge,to,tcp,hca,hrt⟩:=HRW.out.2.cell hjel;obtain ⟨lst,hlst⟩:∃lst,lesc[je]=lst:=⟨_,rfl⟩;rw [hlst] at hca hrt;rw [Nat.mul_one] at hca;have HGL:Hid ((lout :: lesc)[jj]? =some lst):=Lib.hid (by
                  obtain rfl:jj=je+1:=by omega
                  rw [List.getElem?_cons_succ,List.getElem?_eq_getElem hjel,hlst])
                 have HJ1:Hid (1≤jj):=Lib.hid (by omega);subst hoe;subst hje;clear hlst;by_cases hle:lst.length=0
                 · have HZ:=Lib.hid (HBAD.out (loc_list_bad (j:=jj) (lst_lt HGL.out) (by have:=HJ1.out;rw [lst_eq HGL.out];unfold lstB;rw [decide_eq_false (by omega),decide_eq_false (by omega)];rfl)));have hleb: ((lst.length:Int) == 0)=true:=by rw [beq_iff_eq];omega
                   clear hle hrt;go_wp2_with fail;go_ret;exact ⟨retB HZ.out.symm,HBW.out.bel⟩
                 · have hleb: ((lst.length:Int) == 0)=false:=by rw [beq_eq_false_iff_ne];omega
                   have HNZ:=Lib.hid hle;clear hle;have HRT:Hid (Row B to 9 (transAt B W) lst):=Lib.hid hrt;have hln:=hrt.1;have hsb:s'+lst.length≤s+ (jj+1)*140737488355328:=by omega
                   clear hrt;go_wp2_with fail
                   go_loop [111] (fun kv=>∃k:Nat,kv= .int .i64 k∧k≤lst.length∧Hid (∀j (hj:j < lst.length),j < k→toB p.locs.length lst[j]=true)) (fun kv=>lst.length - (intOf kv).toNat)
                   case atStart=>exact ⟨0,rfl,by omega,Lib.hid fun j _ h=>by omega⟩
                   case round=>
                    obtain ⟨k,rfl,hk,HT⟩:=hrel;have hk0: (0:Int)≤k:=by omega
                    by_cases hkl:k < lst.length
                    · have hkli: (k:Int) < lst.length:=by omega
                      obtain ⟨gt,offt,hot,hgt,hta⟩:=HRT.out.cell hkl;subst hot;obtain ⟨q,hq⟩:∃q,lst[k].to=q:=⟨_,rfl⟩;have hc7:=hta.c7;rw [hq] at hc7;have HTB:Hid (toB p.locs.length lst[k]=decide (0≤q∧q < p.locs.length)):=Lib.hid (by unfold toB;rw [hq]);clear hta hq;by_cases hok:0≤q∧q < p.locs.length
                      · have HOK:Hid (toB p.locs.length lst[k]=true):=Lib.hid (by rw [HTB.out];exact decide_eq_true hok);obtain ⟨ho1,ho2⟩:=hok;go_wp2_with fail;go_round;case rel=>exact ⟨k+1,by go_num,by omega,Lib.hid fun j hj hjk=>by
                         by_cases e:j=k
                         · subst e;exact HOK.out
                         · exact HT.out j hj (by omega)⟩
                        case measure=>simp [intOf];omega
                      · have HZ:=Lib.hid (HBAD.out (loc_list_bad (j:=jj) (lst_lt HGL.out) (by rw [lst_eq HGL.out];unfold lstB;rw [all_bad hkl (by rw [HTB.out];exact decide_eq_false hok)];simp)));go_wp2
                        all_goals first | (exfalso;omega) | (go_ret;exact ⟨retB HZ.out.symm,HBW.out.bel⟩)
                    · have hkli:¬ (k:Int) < lst.length:=by omega
                      have HOK:Hid (∀j (hj:j < (lout :: lesc).length),j < jj+1→lstB p.locs.length j (lout :: lesc)[j]=true):=Lib.hid fun j hj hjk=>by
                       by_cases e:j=jj
                       · subst e;rw [lst_eq HGL.out];unfold lstB;rw [all_of fun j hj=>HT.out j hj (by omega)];simp [HNZ.out]
                       · exact HLI.out j hj (by omega)
                      have HSU:Hid (s'+lst.length=s+lensUpto ⟨lout,lesc,false,true,lf,lac,lpr⟩ (jj+1)):=Lib.hid (by rw [lens_succ HGL.out,HSS.out];omega);go_wp2_with fail;go_round;case rel=>exact ⟨jj+1,s'+lst.length,(je:Int)+1,by go_num,by go_num,by omega,by omega,by omega,by omega,by omega,HSU,HOK⟩
                      case measure=>simp [intOf];omega
             · have HOK:=Lib.hid (HGO.out (loc_lists HHT.out (fun j hj=>HLI.out j hj (by have h9:j < (lout :: lesc).length:=hj;simp only [List.length_cons] at h9;omega))));obtain rfl:jj=lesc.length+1:=by omega
               have HSF:Hid (s'= ((p.locs.take (i+1)).map manyL).sum):=Lib.hid (by rw [HSS.out,lens_all];exact HSN.out);go_wp2_with fail;go_roundw;case rel=>exact ⟨i+1,s',by go_num,rfl,by omega,by omega,HSF,HOK,HBW⟩
               case measure=>simp [intOf];omega)
    · have hlti:¬ (i:Int) < p.locs.length:=by omega
      have HA:Hid (placesB p=decide (s≤1024)):=Lib.hid (by
       have h0:s=manyP p:=by
        have:=HS.out;rw [List.take_of_length_le (by omega)] at this;exact this
       rw [HV.out,all_of (fun j hj=>HJ.out j hj (by have h9:j < p.locs.zipIdx.length:=hj;rw [List.length_zipIdx] at h9;omega)),h0,Bool.true_and])
      by_cases hm:s≤1024
      · have HZ:Hid (placesB p=true):=Lib.hid (by rw [HA.out,decide_eq_true hm]);have hmb:decide ((s:Int)≤1024)=true:=by simp;omega
        go_wp2_with fail;go_ret;exact ⟨retB (by rw [HZ.out]),HB.out.bel⟩
      · have HZ:Hid (placesB p=false):=Lib.hid (by rw [HA.out,decide_eq_false hm]);have hmb:decide ((s:Int)≤1024)=false:=by simp;omega
        go_wp2_with fail;go_ret;exact ⟨retB (by rw [HZ.out]),HB.out.bel⟩
end Go.Proofs.YthfldokfnjpkmaaGreatDoor
