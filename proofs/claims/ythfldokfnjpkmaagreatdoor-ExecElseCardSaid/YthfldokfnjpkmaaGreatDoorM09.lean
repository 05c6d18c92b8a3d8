/- Does a variable lie within its scope? -/
import Derived.Test.YthfldokfnjpkmaaGreatDoorM08
set_option linter.unusedVariables false
set_option linter.unusedSimpArgs false
namespace Go.Proofs.YthfldokfnjpkmaaGreatDoor
open Go.ChangeShapes Go.WideShapes Go.ChangeAt Go.RowKit
theorem frameAt_get {m:ModelD} {n:Int} {k:Nat} {x:ProcD} (hn:n=k) (h:m.procs[k]? =some x):frameAt m n=x.frame.length:=by unfold frameAt;rw [hn,Int.toNat_natCast,h];rfl
theorem eqInt_sym (a b:Int): (a == b)= (b == a):=by rw [Bool.eq_iff_iff,beq_iff_eq,beq_iff_eq];exact eq_comm
set_option maxHeartbeats 2000000 in
set_option maxRecDepth 100000 in
theorem liesC {B p:Nat} {h:MH} {m:ModelD} (proc:Nat) (v:VarD) (o:Option Addr) (cap:Nat) (w:World) (hk:Ck B w p h m) (hin:Row B o 3 (dimAt w) v.dims)
 (hproc:proc < m.procs.length) (hty:v.scope=2→ptypeB m v.type=true):
 Calls Tryz.prog 199 #[.pointer (some ⟨p,0,none⟩),.int .i64 proc,.agg #[.int .i64 v.scope,.int .i64 v.slot,.int .i64 v.who,.int .i64 v.type,.slice o v.dims.length cap]] w fun e w'=>e= .returned (.bool (liesB m proc v))∧Below w.heap.size w w':=by
 have HK:=Lib.hid hk;have HIN:=Lib.hid hin;have hB:B≤w.heap.size:=by have:=hk.le;have:=hk.lt;omega
 obtain ⟨cs,hcs⟩:∃cs:Array Value,#[.int .i64 v.scope,.int .i64 v.slot,.int .i64 v.who,.int .i64 v.type,.slice o v.dims.length cap]=cs:=⟨_,rfl⟩;have HX:=Lib.hid (Bx.new w #[.int .i64 v.scope,.int .i64 v.slot,.int .i64 v.who,.int .i64 v.type,.slice o v.dims.length cap] 142);have HKW:=Lib.hid (HK.out.bx HX.out);have HCR:Hid (Calls Tryz.prog 111 #[.agg #[.int .i64 v.scope,.int .i64 v.slot,.int .i64 v.who,.int .i64 v.type,.slice o v.dims.length cap]] (w.alloc (Obj.cells #[.int .i64 v.scope,.int .i64 v.slot,.int .i64 v.who,.int .i64 v.type,.slice o v.dims.length cap] 142)) fun e w'=>e= .returned (.int .i64 (reachL v))∧Below w.heap.size w w'):=Lib.hid
  ((reachC v o cap B _ (HIN.out.mono fun _ _ _ hg=>dimAt.below (ball _) (by omega)) (by have:=HX.out.bel.size;omega)).mono fun _ _ ⟨h1,h2⟩=>⟨h1,HX.out.bel.trans (h2.mono HX.out.bel.size)⟩)
 have HBD:Hid (∀n,Below w.heap.size w ((w.alloc (Obj.cells #[.int .i64 v.scope,.int .i64 v.slot,.int .i64 v.who,.int .i64 v.type,.slice o v.dims.length cap] 142)).drewN n)):=Lib.hid fun n=>bdrew (ball _) n
 have c0:=HKW.out.c0;have c4:=HKW.out.c4;have c5:=HKW.out.c5;have b0: (w.alloc (Obj.cells #[.int .i64 v.scope,.int .i64 v.slot,.int .i64 v.who,.int .i64 v.type,.slice o v.dims.length cap] 142)).cell? ⟨w.heap.size,0,none⟩=some (.int .i64 v.scope):=HX.out.cell rfl;have b3: (w.alloc (Obj.cells #[.int .i64 v.scope,.int .i64 v.slot,.int .i64 v.who,.int .i64 v.type,.slice o v.dims.length cap] 142)).cell? ⟨w.heap.size,3,none⟩=some (.int .i64 v.type):=HX.out.cell rfl;have hpi: (proc:Int) < m.procs.length:=by omega
 have hp0: (0:Int)≤proc:=by omega
 have HV:Hid (liesB m proc v= (!(decide (v.scope=1∧ (proc:Int)=m.claim)) && decide (reachL v≤roomL m proc v))):=Lib.hid rfl;by_cases s1:v.scope=1
 · have e1: (v.scope == 1)=true:=by simp [s1]
   by_cases hcl: (proc:Int)=m.claim
   · have e2: ((proc:Int) == m.claim)=true:=by simp [hcl]
     have HZ:Hid (liesB m proc v=false):=Lib.hid (by rw [HV.out,decide_eq_true ⟨s1,hcl⟩];rfl);have HBE:=Lib.hid HX.out.bel;clear s1 hcl hty hin hk hcs cs;go_enter Tryz.func199,Tryz.ntmps199;go_wp2_with fail;go_ret;exact ⟨retB HZ.out.symm,HBE.out⟩
   · have e2: ((proc:Int) == m.claim)=false:=by simp [hcl]
     obtain ⟨x,hget⟩:∃x,m.procs[proc]? =some x:=⟨_,List.getElem?_eq_getElem hproc⟩;obtain ⟨g,off,ho,hg,he⟩:=HKW.out.md.procs.get hget;obtain ⟨fo,fc,f2,fr⟩:=he.frame;have hfl:=fr.1;rw [ho] at c4;have HZ:Hid (liesB m proc v=decide (reachL v≤ (x.frame.length:Int))):=Lib.hid (by rw [HV.out,decide_eq_false (by rintro ⟨_,h2⟩;exact hcl h2),show roomL m proc v= (x.frame.length:Int) from by unfold roomL;rw [if_pos s1,frameAt_get rfl hget]];rfl);clear s1 hcl hty hin hk hcs cs he hget fr ho;go_enter Tryz.func199,Tryz.ntmps199;go_wp2_with fail;refine HCR.out.mono ?_;rintro e w' ⟨rfl,hbe⟩;have HBE:=Lib.hid hbe;clear hbe;go_wp2_with fail;go_ret;exact ⟨retB HZ.out.symm,HBE.out⟩
 · have e1: (v.scope == 1)=false:=by simp [s1]
   by_cases s2:v.scope=2
   · have e2: (v.scope == 2)=true:=by simp [s2]
     have ht:0≤v.type∧v.type < m.procs.length:=by
      have:=hty s2;unfold ptypeB at this;rw [decide_eq_true_eq] at this;exact ⟨this.1,this.2.1⟩
     obtain ⟨k,hkt⟩:∃k:Nat,v.type=k:=⟨v.type.toNat,by omega⟩;have hkl:k < m.procs.length:=by omega
     obtain ⟨x,hget⟩:∃x,m.procs[k]? =some x:=⟨_,List.getElem?_eq_getElem hkl⟩;obtain ⟨g,off,ho,hg,he⟩:=HKW.out.md.procs.get hget;obtain ⟨fo,fc,f2,fr⟩:=he.frame;have hfl:=fr.1;have HZ:Hid (liesB m proc v=decide (reachL v≤ (x.frame.length:Int))):=Lib.hid (by rw [HV.out,decide_eq_false (by rintro ⟨h2,_⟩;exact s1 h2),show roomL m proc v= (x.frame.length:Int) from by unfold roomL;rw [if_neg s1,if_pos s2,frameAt_get hkt hget]];rfl);have hk1: (k:Int) < m.procs.length:=by omega
     have hk0: (0:Int)≤k:=by omega
     rw [ho] at c4;clear s1 s2 hty hin hk hcs cs he hget fr ho ht HV;go_enter Tryz.func199,Tryz.ntmps199;have HCR2:Hid (∀n,Calls Tryz.prog 111 #[.agg #[.int .i64 v.scope,.int .i64 v.slot,.int .i64 v.who,.int .i64 v.type,.slice o v.dims.length cap]] ((w.alloc (Obj.cells #[.int .i64 v.scope,.int .i64 v.slot,.int .i64 v.who,.int .i64 v.type,.slice o v.dims.length cap] 142)).drewN n) fun e w'=>e= .returned (.int .i64 (reachL v))∧Below w.heap.size w w'):=Lib.hid fun n=>
      ((reachC v o cap B _ (HIN.out.mono fun _ _ _ hg=>dimAt.below (bdrew (ball _) n) (by omega)) (by have:=HX.out.bel.size;exact Nat.le_trans hB this)).mono fun _ _ ⟨h1,h2⟩=>⟨h1,(HBD.out n).trans (h2.mono HX.out.bel.size)⟩)
     clear HCR HBD;rw [hkt] at HCR2 c0 c4 c5 b0 b3 f2 HX HKW ⊢;go_wp2_with fail;go_quiet (fail);go_wp2_with fail;refine (HCR2.out _).mono ?_;rintro e w' ⟨rfl,hbe⟩;have HBE:=Lib.hid hbe;clear hbe;go_wp2_with fail;go_ret;exact ⟨retB HZ.out.symm,HBE.out⟩
   · have e2: (v.scope == 2)=false:=by simp [s2]
     have HZ:Hid (liesB m proc v=decide (reachL v≤ (m.globals.length:Int))):=Lib.hid (by rw [HV.out,decide_eq_false (by rintro ⟨h2,_⟩;exact s1 h2),show roomL m proc v= (m.globals.length:Int) from by unfold roomL;rw [if_neg s1,if_neg s2]];rfl);have hgl:=HK.out.md.globals.1;clear s1 s2 hty hin hk hcs cs HV;go_enter Tryz.func199,Tryz.ntmps199;go_wp2_with fail;refine HCR.out.mono ?_;rintro e w' ⟨rfl,hbe⟩;have HBE:=Lib.hid hbe;clear hbe;go_wp2_with fail;go_ret;exact ⟨retB HZ.out.symm,HBE.out⟩
end Go.Proofs.YthfldokfnjpkmaaGreatDoor
