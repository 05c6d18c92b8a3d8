/- StateBack: what is written of a state is read as the same state, what is read is written as the same bytes, and two states have one text only if they are the same; the document's example holds. Conditions: the argument holds at most 1048576 values and letters; the library's listed variables hold what the program's text lays in them. -/
import Derived.Test.YtnoibjahliafpaaDoorM42
import Derived.SevenTiedAt
import Derived.ShutString
import Derived.ChangeOld
set_option linter.unusedVariables false
set_option linter.unusedSimpArgs false
namespace Go.Proofs.YtnoibjahliafpaaDoor.stateBack
open Go.ChangeShapes Go.WideShapes Go.ChangeAt Go.RowKit
open Go.ChangeMaps (open_string shut_string)
set_option maxRecDepth 100000 in
theorem contract (H:Type) (enc:TypeId × Value→H) (W:World) (base:Nat) (args:Array Value) (ds gs:List (DataW H)) (before:List MemPlace)
 (hval0:∀ (j:Nat) t v,Tryd.f3.params[j]? =some t→args[j]? =some v→Value.okWide Tryd.prog W .any base t v)
 (hW:DataW.Whole enc Tryd.prog Tryd.f3.params.toList Rows.stateBackSpec.vars false W args.toList ds gs before)
 (hsz0: (DataW.weightsEach Tryd.prog (Tryd.f3.params.toList ++ Rows.stateBackSpec.plain.varTypes Tryd.prog) (ds ++ gs)).all (· ≤reachBytes)=true) (hk:Rows.uptoSmall H (ds ++ gs)=true) (hL:laidMet Tryd.prog laidL W):
 Calls Tryd.prog 3 args W fun e W'=>∃v,e= .returned v∧Rows.stateBackSpec.post enc Tryd.prog Tryd.f3 false true false false W args v W':=by
 have hsz:=hsz0;clear hsz0;have hval:∀ (j:Nat) t v,Tryd.f3.params[j]? =some t→args[j]? =some v→Value.okWide Tryd.prog W .any base t v:=hval0;have hW':=hW;obtain ⟨p,q,hA0,hV,rfl,hfz,hnd⟩:=hW;have hA:DataW.TrodAll enc Tryd.prog W 0 (fun _=>true) true Tryd.f3.params.toList args.toList ds p:=hA0;rw [Tryd.params3] at hA hval hsz;obtain ⟨v0,vs0,d0,ds0,p0,q0,hargs,rfl,rfl,h0,r0⟩:=trodAll_cons hA;obtain ⟨rfl,rfl,rfl⟩:=trodAll_nil r0;obtain rfl:args= #[v0]:=by cases args;simp_all
 obtain ⟨rfl,rfl⟩:=trodVars_none hV;have k0:=h0;have lt0:∀x ∈ p0,x.block < W.heap.size:=by obtain ⟨m,hm⟩:=k0;exact DataW.trod_lt m _ _ _ hm
 have w0:Fits 35 d0:=fun k hk=>by
  have:=List.all_eq_true.1 hsz k (DataW.weights_mem_each (j:=0) rfl rfl k hk);simpa using this
 have hbk:=bulks.bound hk;have hb0:=Nat.le_trans (bulks.part_le (d:=d0) (by simp)) hbk;obtain ⟨h,m,hs,s,ht,t,b,rfl,hmd,hsd,htd,hbs⟩:=open_back (hval 0 35 v0 rfl rfl) h0 w0 hb0;clear hA0 hval0 hsz;have hbl:b.data.toList.length≤4294967281:=by
  have h5:b.data.toList.length=b.size:=rfl;omega
 have hwalk:=backWalk b.data.toList W hmd hsd htd hbl (tab_of W hL);rw [show (⟨b.data.toList.toArray⟩:ByteArray)=b from by cases b;simp] at hwalk;refine hwalk.mono fun e W' ⟨he,bel⟩=> ?_
 subst he;exact ⟨_,rfl,_,_,_,[],_,[],hW',trodAll_mk1 (shut_bool Tryd.underlying4 _),(trodAll_cons_mk (Below.trod laidOut (by kernel_rfl) (of_decide_eq_true (by kernel_rfl)) k0 bel lt0) trodAll_mk0),rfl,bel.frame _,fun h=>by cases h⟩
def args0:Array Value:=#[.agg #[.slice none 0 0,.slice none 0 0,.slice none 0 0,.slice none 0 0,.slice none 0 0,.int .i64 0,.slice none 0 0,.slice none 0 0,.slice none 0 0,.slice none 0 0,.int .i64 0,.int .i64 0,.int .i64 0,.slice none 0 0,.slice none 0 0,.slice none 0 0,.int .i64 0,.int .i64 0,.int .i64 0,.string ⟨#[]⟩]]
theorem laid_in (os:Os):LaidIn Tryd.prog ((laidWorld os).forCall (fun _ _=>0) ⟨#[],args0,[]⟩).memory laidL [3,4,2,1,N0+1,0,N0]:=
 LaidIn.of_run [3,4,2,1,N0+1,0,N0] 8 (by kernel_rfl) (by kernel_rfl) (by kernel_rfl) (by kernel_rfl)
theorem laid_met (os:Os):laidMet Tryd.prog laidL ((laidWorld os).forCall (fun _ _=>0) ⟨#[],args0,[]⟩).memory:=(laid_in os).met
theorem reads (os:Os) {H:Type} (enc:TypeId × Value→H):∃places,DataW.whole enc Tryd.prog ((laidWorld os).forCall (fun _ _=>0) ⟨#[],args0,[]⟩).memory Tryd.f3.params.toList Rows.stateBackSpec.vars false args0.toList 8=some ([.agg [.agg [.nil,.nil,.nil,.nil,.nil,.lit (.int .i64 0),.nil],.agg [.nil,.nil,.nil,.lit (.int .i64 0),.lit (.int .i64 0),.lit (.int .i64 0)],.agg [.nil,.nil,.nil,.lit (.int .i64 0),.lit (.int .i64 0),.lit (.int .i64 0)],.lit (.string [])]],[],places):=
 ⟨[],by kernel_rfl⟩
set_option maxRecDepth 100000 in
theorem lifted (os:Os) (started:os.Started) (H:Type) (enc:TypeId × Value→H) (F:Stop.Interp):
 ReturnsInHanded {} Tryd.checked os 3 .any ((Rows.OpenSpec.upto Rows.stateBackSpec).preRow enc Tryd.prog Tryd.f3 Rows.stateBackUptoRow.domain false Rows.stateBackUptoRow.laid) (((Rows.OpenSpec.upto Rows.stateBackSpec).at F).post enc Tryd.prog Tryd.f3 false true false false):=by
 obtain ⟨places,hx⟩:=reads os enc;refine returnsInHanded_of_row (C:=Tryd.checked) (s:=Rows.OpenSpec.upto Rows.stateBackSpec) own started (by kernel_rfl) Tryd.func3
  (witness_row_atRef (enc:=enc) (C:=Tryd.checked) false (laidWorld os) args0 rfl (by kernel_rfl) (by kernel_rfl) (by kernel_rfl)
    (OpenSpec.preRow_of_cond 8 hx (by kernel_rfl) (fun k hk=>by cases hk;kernel_rfl) (by kernel_rfl) (laid_met os))) ?_
 intro W base args ds gs before hval hW _ hcond hsz hL _ _;exact contract H enc W base args ds gs before hval hW hsz (hcond _ rfl) hL
theorem said:Rows.StateBackUptoSaid:=
 OpenClaim.holds_of_cond 3 Tryd.f3 rfl rfl rfl rfl rfl rfl rfl ⟨rfl,rfl,rfl,rfl,rfl⟩ rfl rfl rfl rfl rfl (by kernel_rfl) Tryd.func3 (by kernel_rfl)
  (of_decide_eq_true (by kernel_rfl)) (by unfold Func.isWrapper;first | (rw [if_pos (by decide+kernel)];kernel_rfl) | (rw [if_neg (by decide+kernel)];exact ⟨rfl,rfl⟩))
  (fun os started H enc _ F=>by rw [OpenClaim.pre_eq_preRow];exact lifted os started H enc F)
theorem plain (f:FuncId) (fn:Func) (hf:Tryd.pinned.checked.prog.funcNamed "spinneret/spinneretlaw12.StateBack"=some f) (hfn:Tryd.pinned.checked.prog.funcs[f]? =some fn):
 true=Tryd.pinned.checked.prog.looks []∧∀ (j:Nat) t,fn.params[j]? =some t→Tryd.pinned.checked.prog.wantsStandIn t=false:=by
 obtain rfl:f=3:=Option.some.inj ((show Tryd.prog.funcNamed "spinneret/spinneretlaw12.StateBack"=some 3 by kernel_rfl).symm.trans hf) |>.symm;obtain rfl:fn=Tryd.f3:=(Option.some.inj (Tryd.func3.symm.trans hfn)).symm;refine ⟨by kernel_rfl,fun j t ht=> ?_⟩;rw [Tryd.params3] at ht;have h2:=Array.mem_of_getElem? ht;simp at h2;subst h2;exact (show Tryd.prog.wantsStandIn 35=false by kernel_rfl)
theorem card:Rows.StateBackUptoCardSaid:=
 Claim7.holds_tied_plain_at .later [] _ _ _ _ said (fun _ h=>by cases h) (by kernel_rfl) (fun _ h=>by cases h) stateBackUpto_row_tie rfl ⟨rfl,rfl⟩ (by kernel_rfl) rfl plain (by kernel_rfl)
end Go.Proofs.YtnoibjahliafpaaDoor.stateBack
namespace Go.Proofs.YtnoibjahliafpaaDoor
theorem stateBack_holds:Rows.StateBackUptoCardSaid:=stateBack.card
#print axioms stateBack_holds
end Go.Proofs.YtnoibjahliafpaaDoor
