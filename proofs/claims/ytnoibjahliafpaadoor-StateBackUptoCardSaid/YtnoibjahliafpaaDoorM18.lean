/- Which models may be run: the whole. -/
import Derived.Test.YtnoibjahliafpaaDoorM17
import Derived.Laws.EntriesVeiled
set_option linter.unusedVariables false
set_option linter.unusedSimpArgs false
namespace Go.Proofs.YtnoibjahliafpaaDoor
open Go.ChangeShapes Go.WideShapes Go.ChangeAt Go.RowKit
theorem procsL_all {m:ModelD} (h: (procsL m).2=true) {i:Nat} {x:ProcD} (hx:m.procs[i]? =some x):procB m (x,i)=true:=by
 unfold procsL idxB at h;split at h
 · cases h
 · rename_i hb
   refine bad_all hb _ ?_;obtain ⟨hi,rfl⟩:=List.getElem?_eq_some_iff.1 hx;rw [List.mem_iff_getElem];exact ⟨i,by rw [List.length_zipIdx];exact hi,by simp⟩
theorem procsL_tail {m:ModelD} (h: (procsL m).2=true) {i:Nat} {x:ProcD} (hx:m.procs[i]? =some x): (0≤x.active∧x.active≤16)∧x.provided < m.exprs.length:=by
 have h1:=procsL_all h hx;unfold procB frameB frameTailB at h1;simp only [Bool.and_eq_true,decide_eq_true_eq] at h1;obtain ⟨⟨⟨_,h2⟩,_⟩,_⟩:=h1;exact ⟨⟨h2.1,h2.2.1⟩,h2.2.2.2.2.2⟩
theorem exprs_head {m:ModelD} (h: (expressionsL m).2=true):m.procs.length≤16:=by
 unfold expressionsL at h;split at h
 · cases h
 · rename_i hh
   unfold exprsHead at hh;rw [decide_eq_true_eq] at hh;omega
theorem index6 (cs:Array Value) (k:Nat) (v:Value) (hk:k < 6) (w:World) (h:cs[k]? =some v): (Instr.index 106 (.agg cs) (.int .i64 (k:Int))).run Tryd.prog w= .ok v w:=by
 have hi: (0:Int)≤k∧ (k:Int) < 6:=by omega
 have info: (Tryd.prog.info? 105).map (fun i=>(i.zero,i.size,i.bytes))=some (some .nilFunc,1,8):=by kernel_rfl
 have hs:∀w,(sizeOf 105).run Tryd.prog w= .ok 1 w:=fun w=>by
  obtain ⟨i,hi⟩:∃i,Tryd.prog.info? 105=some i:=by
   have:=info;cases h:Tryd.prog.info? 105 with
   | none=>rw [h] at this;cases this
   | some i=>exact ⟨i,rfl⟩
  have h2:=info;rw [hi] at h2;simp at h2;simp [sizeOf,typeInfo,hi,h2.2.1,go_sem]
 simp [Instr.index,asIntOf,run_underlying Tryd.underlying106,hi,hs,go_sem];rw [if_pos hk,h];rfl
theorem retIII {a b c a' b' c':Int} (h1:a=a') (h2:b=b') (h3:c=c'):Ending.returned (.tuple #[.int .i64 a,.int .i64 b,.int .i64 c])= .returned (.tuple #[.int .i64 a',.int .i64 b',.int .i64 c']):=by rw [h1,h2,h3]
set_option maxHeartbeats 4000000 in
set_option maxRecDepth 100000 in
theorem checkC {B:Nat} {h:MH} {m:ModelD} (w:World) (hB:B≤w.heap.size) (hmd:MD B w h m):
 Calls Tryd.prog 32 #[mV h m] w fun e w'=>e= .returned (.tuple #[.int .i64 (checkL m).1,.int .i64 (checkL m).2.1,.int .i64 (checkL m).2.2])∧Below w.heap.size w w':=by
 have hmf:∀ (fn:Fn) (first cap:Array Value) (w:World),(Instr.makeFunc fn first cap).run Tryd.prog w= .ok (.func fn first cap) w:=fun _ _ _ _=>rfl
 have hx0:∀ (a b c d e f:Value) (w:World),(Instr.index 106 (.agg #[a,b,c,d,e,f]) (.int .i64 0)).run Tryd.prog w= .ok a w:=fun _ _ _ _ _ _ _=>index6 _ 0 _ (by decide) _ rfl
 have hx1:∀ (a b c d e f:Value) (w:World),(Instr.index 106 (.agg #[a,b,c,d,e,f]) (.int .i64 1)).run Tryd.prog w= .ok b w:=fun _ _ _ _ _ _ _=>index6 _ 1 _ (by decide) _ rfl
 have hx2:∀ (a b c d e f:Value) (w:World),(Instr.index 106 (.agg #[a,b,c,d,e,f]) (.int .i64 2)).run Tryd.prog w= .ok c w:=fun _ _ _ _ _ _ _=>index6 _ 2 _ (by decide) _ rfl
 have hx3:∀ (a b c d e f:Value) (w:World),(Instr.index 106 (.agg #[a,b,c,d,e,f]) (.int .i64 3)).run Tryd.prog w= .ok d w:=fun _ _ _ _ _ _ _=>index6 _ 3 _ (by decide) _ rfl
 have hx4:∀ (a b c d e f:Value) (w:World),(Instr.index 106 (.agg #[a,b,c,d,e,f]) (.int .i64 4)).run Tryd.prog w= .ok e w:=fun _ _ _ _ _ _ _=>index6 _ 4 _ (by decide) _ rfl
 have hx5:∀ (a b c d e f:Value) (w:World),(Instr.index 106 (.agg #[a,b,c,d,e,f]) (.int .i64 5)).run Tryd.prog w= .ok f w:=fun _ _ _ _ _ _ _=>index6 _ 5 _ (by decide) _ rfl
 have HB:Hid (Below w.heap.size w (((w.alloc (.cells #[.slice h.go m.globals.length h.gc,.slice h.io m.init.length h.ic,.slice h.so m.shapes.length h.sc,.slice h.co m.chans.length h.cc,.slice h.po m.procs.length h.pc,.int .i64 m.claim,.slice h.eo m.exprs.length h.ec] 29)).alloc (.cells #[.slice h.go m.globals.length h.gc,.slice h.io m.init.length h.ic,.slice h.so m.shapes.length h.sc,.slice h.co m.chans.length h.cc,.slice h.po m.procs.length h.pc,.int .i64 m.claim,.slice h.eo m.exprs.length h.ec,.slice none 0 0,.slice none 0 0] 104)).alloc (.cells #[.func (.func 44) #[.pointer (some ⟨w.heap.size+1,0,none⟩)] #[],.func (.func 45) #[.pointer (some ⟨w.heap.size+1,0,none⟩)] #[],.func (.func 46) #[.pointer (some ⟨w.heap.size+1,0,none⟩)] #[],.func (.func 47) #[.pointer (some ⟨w.heap.size+1,0,none⟩)] #[],.func (.func 48) #[.pointer (some ⟨w.heap.size+1,0,none⟩)] #[],.func (.func 49) #[.pointer (some ⟨w.heap.size+1,0,none⟩)] #[]] 106))):=Lib.hid ((((Below.refl _ _).alloc (Nat.le_refl _) _).alloc (by simp) _).alloc (by simp;omega) _);have HO:Hid ((((w.alloc (.cells #[.slice h.go m.globals.length h.gc,.slice h.io m.init.length h.ic,.slice h.so m.shapes.length h.sc,.slice h.co m.chans.length h.cc,.slice h.po m.procs.length h.pc,.int .i64 m.claim,.slice h.eo m.exprs.length h.ec] 29)).alloc (.cells #[.slice h.go m.globals.length h.gc,.slice h.io m.init.length h.ic,.slice h.so m.shapes.length h.sc,.slice h.co m.chans.length h.cc,.slice h.po m.procs.length h.pc,.int .i64 m.claim,.slice h.eo m.exprs.length h.ec,.slice none 0 0,.slice none 0 0] 104)).alloc (.cells #[.func (.func 44) #[.pointer (some ⟨w.heap.size+1,0,none⟩)] #[],.func (.func 45) #[.pointer (some ⟨w.heap.size+1,0,none⟩)] #[],.func (.func 46) #[.pointer (some ⟨w.heap.size+1,0,none⟩)] #[],.func (.func 47) #[.pointer (some ⟨w.heap.size+1,0,none⟩)] #[],.func (.func 48) #[.pointer (some ⟨w.heap.size+1,0,none⟩)] #[],.func (.func 49) #[.pointer (some ⟨w.heap.size+1,0,none⟩)] #[]] 106)).heap[w.heap.size+1]? =some (.cells (kCells h m (.slice none 0 0) (.slice none 0 0)) 104 (0,0))):=Lib.hid (by
  rw [Below.heap_alloc _ _ _ (by simp)];have h:=heap_alloc_new (w.alloc (.cells #[.slice h.go m.globals.length h.gc,.slice h.io m.init.length h.ic,.slice h.so m.shapes.length h.sc,.slice h.co m.chans.length h.cc,.slice h.po m.procs.length h.pc,.int .i64 m.claim,.slice h.eo m.exprs.length h.ec] 29)) (.cells #[.slice h.go m.globals.length h.gc,.slice h.io m.init.length h.ic,.slice h.so m.shapes.length h.sc,.slice h.co m.chans.length h.cc,.slice h.po m.procs.length h.pc,.int .i64 m.claim,.slice h.eo m.exprs.length h.ec,.slice none 0 0,.slice none 0 0] 104);rw [World.size_alloc] at h;exact h)
 have HMD:=Lib.hid ((hmd.lift hB).below HB.out);clear hmd;obtain ⟨r1,r2,r3,hr⟩:∃r1 r2 r3,checkL m= (r1,r2,r3):=⟨_,_,_,rfl⟩;have HR:=Lib.hid hr;rw [hr];simp only;clear hr;unfold mV mCells;go_enter Tryd.func32,Tryd.ntmps32;go_wp2_with fail;generalize (((w.alloc (.cells #[.slice h.go m.globals.length h.gc,.slice h.io m.init.length h.ic,.slice h.so m.shapes.length h.sc,.slice h.co m.chans.length h.cc,.slice h.po m.procs.length h.pc,.int .i64 m.claim,.slice h.eo m.exprs.length h.ec] 29)).alloc (.cells #[.slice h.go m.globals.length h.gc,.slice h.io m.init.length h.ic,.slice h.so m.shapes.length h.sc,.slice h.co m.chans.length h.cc,.slice h.po m.procs.length h.pc,.int .i64 m.claim,.slice h.eo m.exprs.length h.ec,.slice none 0 0,.slice none 0 0] 104)).alloc (.cells #[.func (.func 44) #[.pointer (some ⟨w.heap.size+1,0,none⟩)] #[],.func (.func 45) #[.pointer (some ⟨w.heap.size+1,0,none⟩)] #[],.func (.func 46) #[.pointer (some ⟨w.heap.size+1,0,none⟩)] #[],.func (.func 47) #[.pointer (some ⟨w.heap.size+1,0,none⟩)] #[],.func (.func 48) #[.pointer (some ⟨w.heap.size+1,0,none⟩)] #[],.func (.func 49) #[.pointer (some ⟨w.heap.size+1,0,none⟩)] #[]] 106))=W at HB HO HMD ⊢;have HPLE:Hid (w.heap.size≤w.heap.size+1):=Lib.hid (by omega);generalize w.heap.size+1=p at HO HPLE ⊢;have hlt:p < W.heap.size:=lt_of_block HO.out;have HCK:Hid (∀W',Below W.heap.size W W'→Ck w.heap.size W' p h m∧MD w.heap.size W' h m∧W'.heap[p]? =some (.cells (kCells h m (.slice none 0 0) (.slice none 0 0)) 104 (0,0))):=Lib.hid fun W' hb=>by
  have hp:=(hb.block _ hlt).trans HO.out;have hm:MD w.heap.size W' h m:=HMD.out.below (hb.mono HB.out.size);exact ⟨⟨(cell_of_row _ _ _ _ _ _ hp).trans rfl,(cell_of_row _ _ _ _ _ _ hp).trans rfl,(cell_of_row _ _ _ _ _ _ hp).trans rfl,(cell_of_row _ _ _ _ _ _ hp).trans rfl,(cell_of_row _ _ _ _ _ _ hp).trans rfl,(cell_of_row _ _ _ _ _ _ hp).trans rfl,(cell_of_row _ _ _ _ _ _ hp).trans rfl,Nat.le_trans HPLE.out (Nat.le_of_lt (lt_of_block hp)),lt_of_block hp,hm⟩,hm,hp⟩
 have HB0:Hid (Below W.heap.size W W):=Lib.hid (Below.refl _ _);refine wp_loop_rounds 7 ?_;rw [rounds_succ];go_wp2_with fail;refine (globalsC _ (HCK.out _ HB0.out).1).mono ?_;rintro e w1 ⟨rfl,hb⟩;have HB1:Hid (Below W.heap.size W w1):=Lib.hid (HB0.out.trans (hb.mono HB0.out.size));have HBE:Hid (Below w.heap.size w w1):=Lib.hid (HB.out.trans (HB1.out.mono HB.out.size));clear hb;obtain ⟨q,u,hq⟩:∃q u,globalsL m= (q,u):=⟨_,_,rfl⟩;have HQ0:=Lib.hid hq;rw [hq];simp only;clear hq;cases u
 · have HZ:Hid (40=r1∧1=r2∧q=r3):=Lib.hid (by
    have h1:=HR.out;unfold checkL at h1;rw [if_pos (by rw [HQ0.out]),HQ0.out] at h1;injection h1 with h1 h2
    injection h2 with h2 h3
    exact ⟨h1,h2,h3⟩)
   go_wp2_with fail;go_ret3;exact ⟨retIII HZ.out.1 HZ.out.2.1 HZ.out.2.2,HBE.out⟩
 have HT0:Hid ((globalsL m).2=true):=Lib.hid (by rw [HQ0.out]);clear HBE;go_wp2_with fail;rw [rounds_succ];go_wp2_with fail;refine (channelsC _ (HCK.out _ HB1.out).1).mono ?_;rintro e w2 ⟨rfl,hb⟩;have HB2:Hid (Below W.heap.size W w2):=Lib.hid (HB1.out.trans (hb.mono HB1.out.size));have HBE:Hid (Below w.heap.size w w2):=Lib.hid (HB.out.trans (HB2.out.mono HB.out.size));clear hb;obtain ⟨q,u,hq⟩:∃q u,channelsL m= (q,u):=⟨_,_,rfl⟩;have HQ1:=Lib.hid hq;rw [hq];simp only;clear hq;cases u
 · have HZ:Hid (40=r1∧2=r2∧q=r3):=Lib.hid (by
    have h1:=HR.out;unfold checkL at h1;rw [if_neg (by rw [HT0.out];decide),if_pos (by rw [HQ1.out]),HQ1.out] at h1;injection h1 with h1 h2
    injection h2 with h2 h3
    exact ⟨h1,h2,h3⟩)
   go_wp2_with fail;go_ret3;exact ⟨retIII HZ.out.1 HZ.out.2.1 HZ.out.2.2,HBE.out⟩
 have HT1:Hid ((channelsL m).2=true):=Lib.hid (by rw [HQ1.out]);clear HBE;go_wp2_with fail;rw [rounds_succ];go_wp2_with fail;refine (expressionsC _ (HCK.out _ HB2.out).1).mono ?_;rintro e w3 ⟨rfl,hb⟩;have HB3:Hid (Below W.heap.size W w3):=Lib.hid (HB2.out.trans (hb.mono HB2.out.size));have HBE:Hid (Below w.heap.size w w3):=Lib.hid (HB.out.trans (HB3.out.mono HB.out.size));clear hb;obtain ⟨q,u,hq⟩:∃q u,expressionsL m= (q,u):=⟨_,_,rfl⟩;have HQ2:=Lib.hid hq;rw [hq];simp only;clear hq;cases u
 · have HZ:Hid (40=r1∧3=r2∧q=r3):=Lib.hid (by
    have h1:=HR.out;unfold checkL at h1;rw [if_neg (by rw [HT0.out];decide),if_neg (by rw [HT1.out];decide),if_pos (by rw [HQ2.out]),HQ2.out] at h1;injection h1 with h1 h2
    injection h2 with h2 h3
    exact ⟨h1,h2,h3⟩)
   go_wp2_with fail;go_ret3;exact ⟨retIII HZ.out.1 HZ.out.2.1 HZ.out.2.2,HBE.out⟩
 have HT2:Hid ((expressionsL m).2=true):=Lib.hid (by rw [HQ2.out]);clear HBE;go_wp2_with fail;rw [rounds_succ];go_wp2_with fail;refine (procsC _ (HCK.out _ HB3.out).1).mono ?_;rintro e w4 ⟨rfl,hb⟩;have HB4:Hid (Below W.heap.size W w4):=Lib.hid (HB3.out.trans (hb.mono HB3.out.size));have HBE:Hid (Below w.heap.size w w4):=Lib.hid (HB.out.trans (HB4.out.mono HB.out.size));clear hb;obtain ⟨q,u,hq⟩:∃q u,procsL m= (q,u):=⟨_,_,rfl⟩;have HQ3:=Lib.hid hq;rw [hq];simp only;clear hq;cases u
 · have HZ:Hid (40=r1∧4=r2∧q=r3):=Lib.hid (by
    have h1:=HR.out;unfold checkL at h1;rw [if_neg (by rw [HT0.out];decide),if_neg (by rw [HT1.out];decide),if_neg (by rw [HT2.out];decide),if_pos (by rw [HQ3.out]),HQ3.out] at h1;injection h1 with h1 h2
    injection h2 with h2 h3
    exact ⟨h1,h2,h3⟩)
   go_wp2_with fail;go_ret3;exact ⟨retIII HZ.out.1 HZ.out.2.1 HZ.out.2.2,HBE.out⟩
 have HT3:Hid ((procsL m).2=true):=Lib.hid (by rw [HQ3.out]);clear HBE;go_wp2_with fail;rw [rounds_succ];go_wp2_with fail;refine (activeC _ (HCK.out _ HB4.out).1 (exprs_head HT2.out) (fun p hp=>by obtain ⟨i,hi⟩:=List.mem_iff_getElem?.1 hp;exact (procsL_tail HT3.out hi).1)).mono ?_;rintro e w5 ⟨rfl,hb⟩;have HB5:Hid (Below W.heap.size W w5):=Lib.hid (HB4.out.trans (hb.mono HB4.out.size));have HBE:Hid (Below w.heap.size w w5):=Lib.hid (HB.out.trans (HB5.out.mono HB.out.size));clear hb;obtain ⟨q,u,hq⟩:∃q u,activeL m= (q,u):=⟨_,_,rfl⟩;have HQ4:=Lib.hid hq;rw [hq];simp only;clear hq;cases u
 · have HZ:Hid (40=r1∧5=r2∧q=r3):=Lib.hid (by
    have h1:=HR.out;unfold checkL at h1;rw [if_neg (by rw [HT0.out];decide),if_neg (by rw [HT1.out];decide),if_neg (by rw [HT2.out];decide),if_neg (by rw [HT3.out];decide),if_pos (by rw [HQ4.out]),HQ4.out] at h1;injection h1 with h1 h2
    injection h2 with h2 h3
    exact ⟨h1,h2,h3⟩)
   go_wp2_with fail;go_ret3;exact ⟨retIII HZ.out.1 HZ.out.2.1 HZ.out.2.2,HBE.out⟩
 have HT4:Hid ((activeL m).2=true):=Lib.hid (by rw [HQ4.out]);clear HBE;go_wp2_with fail;rw [rounds_succ];go_wp2_with fail;refine (statementsC _ HPLE.out (HCK.out _ HB5.out).2.1 (HCK.out _ HB5.out).2.2 (EX.of HT2.out) (fun i x hx=>(procsL_tail HT3.out hx).2)).mono ?_;rintro e w6 ⟨rfl,hb⟩;have HBE:Hid (Below w.heap.size w w6):=Lib.hid ((HB.out.trans (HB5.out.mono HB.out.size)).trans hb);clear hb;obtain ⟨q,u,hq⟩:∃q u,statementsL m= (q,u):=⟨_,_,rfl⟩;have HQ5:=Lib.hid hq;rw [hq];simp only;clear hq;cases u
 · have HZ:Hid (40=r1∧6=r2∧q=r3):=Lib.hid (by
    have h1:=HR.out;unfold checkL at h1;rw [if_neg (by rw [HT0.out];decide),if_neg (by rw [HT1.out];decide),if_neg (by rw [HT2.out];decide),if_neg (by rw [HT3.out];decide),if_neg (by rw [HT4.out];decide),if_pos (by rw [HQ5.out]),HQ5.out] at h1;injection h1 with h1 h2
    injection h2 with h2 h3
    exact ⟨h1,h2,h3⟩)
   go_wp2_with fail;go_ret3;exact ⟨retIII HZ.out.1 HZ.out.2.1 HZ.out.2.2,HBE.out⟩
 have HT5:Hid ((statementsL m).2=true):=Lib.hid (by rw [HQ5.out]);go_wp2_with fail;have HZ:Hid (0=r1∧0=r2∧0=r3):=Lib.hid (by
  have h1:=HR.out;unfold checkL at h1;rw [if_neg (by rw [HT0.out];decide),if_neg (by rw [HT1.out];decide),if_neg (by rw [HT2.out];decide),if_neg (by rw [HT3.out];decide),if_neg (by rw [HT4.out];decide),if_neg (by rw [HT5.out];decide)] at h1;injection h1 with h1 h2
  injection h2 with h2 h3
  exact ⟨h1,h2,h3⟩)
 rw [rounds_succ];go_wp2_with fail;go_ret3;exact ⟨retIII HZ.out.1 HZ.out.2.1 HZ.out.2.2,HBE.out⟩
end Go.Proofs.YtnoibjahliafpaaDoor
