/- Rows cloned. -/
import Derived.Test.YthfldokfnjpkmaaGreatDoorM22
import Derived.Laws.AppendOwn
import Derived.Deep.RegionLaw
import Derived.RegionTactic
set_option linter.unusedVariables false
set_option linter.unusedSimpArgs false
namespace Go.Proofs.YthfldokfnjpkmaaGreatDoor
open Go.ChangeShapes Go.WideShapes Go.ChangeAt Go.RowKit
def SrcRow (w:World) (o:Option Addr) (n:Nat) (xs:List Value):Prop:=n=0∨∃g off,o=some ⟨g,off,none⟩∧g < w.heap.size∧∀ (j:Nat) (u:Value),xs[j]? =some u→w.cell? ⟨g,off+j,none⟩=some u
theorem SrcRow.below {w w':World} {o:Option Addr} {n:Nat} {xs:List Value} (h:SrcRow w o n xs) (hb:Below w.heap.size w w'):SrcRow w' o n xs:=
 h.imp id fun ⟨g,off,e,hg,hi⟩=>⟨g,off,e,Nat.lt_of_lt_of_le hg hb.size,fun j u hj=>(hb.cell hg).trans (hi j u hj)⟩
def CloneP (w:World) (e:TypeId) (size n:Nat) (xs:List Value) (r:Ending) (w':World):Prop:=∃o c,r= .returned (.slice o n c)∧w'.ownsRow w.heap.size e size (.slice o n c) n xs∧Below w.heap.size w w'
theorem owns_head {w:World} {B n size:Nat} {e:TypeId} {v:Value} {xs:List Value} (h:w.ownsRow B e size v n xs):∃o c,v= .slice o n c:=by
 rcases Joins.ownsRow_forms h with ⟨rfl,rfl⟩ | ⟨g,c,rfl⟩
 · exact ⟨none,0,rfl⟩
 · exact ⟨_,c,rfl⟩
theorem info_ints: (Tryz.prog.info? 2).map (fun i=>(i.zero,i.size,i.bytes))=some (some (.int .i64 0),1,8):=by kernel_rfl
set_option maxHeartbeats 2000000 in
set_option maxRecDepth 100000 in
theorem clone_ints (o:Option Addr) (n c:Nat) (xs:List Value) (w:World) (hxs:xs.length=n*1) (hone:∀u ∈ xs,u.oneCell'=true) (h:SrcRow w o n xs) (hbig:n*8≤140737488355328):
 Calls Tryz.prog 73 #[.slice o n c] w (CloneP w 2 1 n xs):=by
 have qn:∀ (w:World) (a:Option Addr) (n c n' c':Nat),(binOp .eql 23 (.slice a n c) (.slice none n' c')).run Tryz.prog w= .ok (.bool a.isNone) w:=fun w a n c n' c'=>Lib.run_eql_slice_nil w _ _ a n c n' c' Tryz.underlying23
 obtain ⟨ie,hi,hz0,hsz,hby⟩:=info_parts info_ints;have HI:=Lib.hid (And.intro hi (And.intro hz0 (And.intro hsz hby)));have HS:=Lib.hid h;have HONE:=Lib.hid hone;have HXS:=Lib.hid hxs;clear hi hz0 hsz hby h hone hxs;cases o with
 | none=>
   have HQ:Hid (n=0):=Lib.hid (by
    rcases HS.out with h | ⟨_,_,h,_⟩
    · exact h
    · cases h)
   go_enter Tryz.func73,Tryz.ntmps73;go_wp2_with fail;go_ret;refine ⟨none,0,by rw [HQ.out];rfl, ?_,Below.refl _ _⟩;have hx0:xs= []:=List.eq_nil_of_length_eq_zero (by rw [HXS.out,HQ.out,Nat.zero_mul]);rw [HQ.out,hx0];exact World.ownsRow_nil _ _ _ _
 | some a=>
   go_enter Tryz.func73,Tryz.ntmps73;go_wp2_with (at_builtin;refine wpList_append_own _ rfl _ _ 23 rfl w.heap.size 2 ie (.int .i64 0) 1 8 Tryz.underlying23 HI.out.1 HI.out.2.1 HI.out.2.2.1 HI.out.2.2.2 rfl (by decide) _ _ _ rfl (World.ownsRow_made w #[] 0 (Nat.le_refl _) (Nat.zero_le _) (by simp)) a n c xs rfl ?qc1 ?qc2 ?qc3 ?qc4 ?qc5 ?qc6 ?_);case qc1=>exact HXS.out
   case qc2=>
    intro j u hj;rcases HS.out with h | ⟨g,off,e,hg,hI⟩
    · have hx0:xs= []:=List.eq_nil_of_length_eq_zero (by rw [HXS.out,h,Nat.zero_mul]);rw [hx0] at hj;simp at hj
    · cases e;rw [Addr.add_lit];exact Lib.cell?_alloc_some _ (hI j u hj)
   case qc3=>exact HONE.out
   case qc4=>unfold maxLen;omega
   case qc5=>omega
   case qc6=>simp
   intro v' w1 hown hgrow hnil;have HO:=Lib.hid hown;have HG:=Lib.hid hgrow;clear hown hgrow hnil;go_wp2_with fail;go_ret;have ho:=HO.out
   try simp only [Nat.zero_add,List.nil_append] at ho
   obtain ⟨o',c',rfl⟩:=owns_head ho;exact ⟨o',c',rfl,ho,((Below.refl _ w).alloc (Nat.le_refl _) _).grown HG.out (by simp) (by intro k hk;simp [Value.ownBlock] at hk;omega)⟩
theorem info_chans: (Tryz.prog.info? 81).map (fun i=>(i.zero,i.size,i.bytes))=some (some (.agg #[.int .i64 0,.slice none 0 0]),2,32):=by kernel_rfl
set_option maxHeartbeats 2000000 in
set_option maxRecDepth 100000 in
theorem clone_chans (o:Option Addr) (n c:Nat) (xs:List Value) (w:World) (hxs:xs.length=n*2) (hone:∀u ∈ xs,u.oneCell'=true) (h:SrcRow w o n xs) (hbig:n*32≤140737488355328):
 Calls Tryz.prog 74 #[.slice o n c] w (CloneP w 81 2 n xs):=by
 have qn:∀ (w:World) (a:Option Addr) (n c n' c':Nat),(binOp .eql 30 (.slice a n c) (.slice none n' c')).run Tryz.prog w= .ok (.bool a.isNone) w:=fun w a n c n' c'=>Lib.run_eql_slice_nil w _ _ a n c n' c' Tryz.underlying30
 obtain ⟨ie,hi,hz0,hsz,hby⟩:=info_parts info_chans;have HI:=Lib.hid (And.intro hi (And.intro hz0 (And.intro hsz hby)));have HS:=Lib.hid h;have HONE:=Lib.hid hone;have HXS:=Lib.hid hxs;clear hi hz0 hsz hby h hone hxs;cases o with
 | none=>
   have HQ:Hid (n=0):=Lib.hid (by
    rcases HS.out with h | ⟨_,_,h,_⟩
    · exact h
    · cases h)
   go_enter Tryz.func74,Tryz.ntmps74;go_wp2_with fail;go_ret;refine ⟨none,0,by rw [HQ.out];rfl, ?_,Below.refl _ _⟩;have hx0:xs= []:=List.eq_nil_of_length_eq_zero (by rw [HXS.out,HQ.out,Nat.zero_mul]);rw [HQ.out,hx0];exact World.ownsRow_nil _ _ _ _
 | some a=>
   go_enter Tryz.func74,Tryz.ntmps74;go_wp2_with (at_builtin;refine wpList_append_own _ rfl _ _ 30 rfl w.heap.size 81 ie (.agg #[.int .i64 0,.slice none 0 0]) 2 32 Tryz.underlying30 HI.out.1 HI.out.2.1 HI.out.2.2.1 HI.out.2.2.2 rfl (by decide) _ _ _ rfl (World.ownsRow_made w #[] 0 (Nat.le_refl _) (Nat.zero_le _) (by simp)) a n c xs rfl ?qc1 ?qc2 ?qc3 ?qc4 ?qc5 ?qc6 ?_);case qc1=>exact HXS.out
   case qc2=>
    intro j u hj;rcases HS.out with h | ⟨g,off,e,hg,hI⟩
    · have hx0:xs= []:=List.eq_nil_of_length_eq_zero (by rw [HXS.out,h,Nat.zero_mul]);rw [hx0] at hj;simp at hj
    · cases e;rw [Addr.add_lit];exact Lib.cell?_alloc_some _ (hI j u hj)
   case qc3=>exact HONE.out
   case qc4=>unfold maxLen;omega
   case qc5=>omega
   case qc6=>simp
   intro v' w1 hown hgrow hnil;have HO:=Lib.hid hown;have HG:=Lib.hid hgrow;clear hown hgrow hnil;go_wp2_with fail;go_ret;have ho:=HO.out
   try simp only [Nat.zero_add,List.nil_append] at ho
   obtain ⟨o',c',rfl⟩:=owns_head ho;exact ⟨o',c',rfl,ho,((Below.refl _ w).alloc (Nat.le_refl _) _).grown HG.out (by simp) (by intro k hk;simp [Value.ownBlock] at hk;omega)⟩
theorem info_queue: (Tryz.prog.info? 82).map (fun i=>(i.zero,i.size,i.bytes))=some (some (.slice none 0 0),1,24):=by kernel_rfl
set_option maxHeartbeats 2000000 in
set_option maxRecDepth 100000 in
theorem clone_queue (o:Option Addr) (n c:Nat) (xs:List Value) (w:World) (hxs:xs.length=n*1) (hone:∀u ∈ xs,u.oneCell'=true) (h:SrcRow w o n xs) (hbig:n*24≤140737488355328):
 Calls Tryz.prog 75 #[.slice o n c] w (CloneP w 82 1 n xs):=by
 have qn:∀ (w:World) (a:Option Addr) (n c n' c':Nat),(binOp .eql 79 (.slice a n c) (.slice none n' c')).run Tryz.prog w= .ok (.bool a.isNone) w:=fun w a n c n' c'=>Lib.run_eql_slice_nil w _ _ a n c n' c' Tryz.underlying79
 obtain ⟨ie,hi,hz0,hsz,hby⟩:=info_parts info_queue;have HI:=Lib.hid (And.intro hi (And.intro hz0 (And.intro hsz hby)));have HS:=Lib.hid h;have HONE:=Lib.hid hone;have HXS:=Lib.hid hxs;clear hi hz0 hsz hby h hone hxs;cases o with
 | none=>
   have HQ:Hid (n=0):=Lib.hid (by
    rcases HS.out with h | ⟨_,_,h,_⟩
    · exact h
    · cases h)
   go_enter Tryz.func75,Tryz.ntmps75;go_wp2_with fail;go_ret;refine ⟨none,0,by rw [HQ.out];rfl, ?_,Below.refl _ _⟩;have hx0:xs= []:=List.eq_nil_of_length_eq_zero (by rw [HXS.out,HQ.out,Nat.zero_mul]);rw [HQ.out,hx0];exact World.ownsRow_nil _ _ _ _
 | some a=>
   go_enter Tryz.func75,Tryz.ntmps75;go_wp2_with (at_builtin;refine wpList_append_own _ rfl _ _ 79 rfl w.heap.size 82 ie (.slice none 0 0) 1 24 Tryz.underlying79 HI.out.1 HI.out.2.1 HI.out.2.2.1 HI.out.2.2.2 rfl (by decide) _ _ _ rfl (World.ownsRow_made w #[] 0 (Nat.le_refl _) (Nat.zero_le _) (by simp)) a n c xs rfl ?qc1 ?qc2 ?qc3 ?qc4 ?qc5 ?qc6 ?_);case qc1=>exact HXS.out
   case qc2=>
    intro j u hj;rcases HS.out with h | ⟨g,off,e,hg,hI⟩
    · have hx0:xs= []:=List.eq_nil_of_length_eq_zero (by rw [HXS.out,h,Nat.zero_mul]);rw [hx0] at hj;simp at hj
    · cases e;rw [Addr.add_lit];exact Lib.cell?_alloc_some _ (hI j u hj)
   case qc3=>exact HONE.out
   case qc4=>unfold maxLen;omega
   case qc5=>omega
   case qc6=>simp
   intro v' w1 hown hgrow hnil;have HO:=Lib.hid hown;have HG:=Lib.hid hgrow;clear hown hgrow hnil;go_wp2_with fail;go_ret;have ho:=HO.out
   try simp only [Nat.zero_add,List.nil_append] at ho
   obtain ⟨o',c',rfl⟩:=owns_head ho;exact ⟨o',c',rfl,ho,((Below.refl _ w).alloc (Nat.le_refl _) _).grown HG.out (by simp) (by intro k hk;simp [Value.ownBlock] at hk;omega)⟩
theorem info_msg: (Tryz.prog.info? 2).map (fun i=>(i.zero,i.size,i.bytes))=some (some (.int .i64 0),1,8):=by kernel_rfl
set_option maxHeartbeats 2000000 in
set_option maxRecDepth 100000 in
theorem clone_msg (o:Option Addr) (n c:Nat) (xs:List Value) (w:World) (hxs:xs.length=n*1) (hone:∀u ∈ xs,u.oneCell'=true) (h:SrcRow w o n xs) (hbig:n*8≤140737488355328):
 Calls Tryz.prog 76 #[.slice o n c] w (CloneP w 2 1 n xs):=by
 have qn:∀ (w:World) (a:Option Addr) (n c n' c':Nat),(binOp .eql 82 (.slice a n c) (.slice none n' c')).run Tryz.prog w= .ok (.bool a.isNone) w:=fun w a n c n' c'=>Lib.run_eql_slice_nil w _ _ a n c n' c' Tryz.underlying82
 obtain ⟨ie,hi,hz0,hsz,hby⟩:=info_parts info_msg;have HI:=Lib.hid (And.intro hi (And.intro hz0 (And.intro hsz hby)));have HS:=Lib.hid h;have HONE:=Lib.hid hone;have HXS:=Lib.hid hxs;clear hi hz0 hsz hby h hone hxs;cases o with
 | none=>
   have HQ:Hid (n=0):=Lib.hid (by
    rcases HS.out with h | ⟨_,_,h,_⟩
    · exact h
    · cases h)
   go_enter Tryz.func76,Tryz.ntmps76;go_wp2_with fail;go_ret;refine ⟨none,0,by rw [HQ.out];rfl, ?_,Below.refl _ _⟩;have hx0:xs= []:=List.eq_nil_of_length_eq_zero (by rw [HXS.out,HQ.out,Nat.zero_mul]);rw [HQ.out,hx0];exact World.ownsRow_nil _ _ _ _
 | some a=>
   go_enter Tryz.func76,Tryz.ntmps76;go_wp2_with (at_builtin;refine wpList_append_own _ rfl _ _ 82 rfl w.heap.size 2 ie (.int .i64 0) 1 8 Tryz.underlying82 HI.out.1 HI.out.2.1 HI.out.2.2.1 HI.out.2.2.2 rfl (by decide) _ _ _ rfl (World.ownsRow_made w #[] 0 (Nat.le_refl _) (Nat.zero_le _) (by simp)) a n c xs rfl ?qc1 ?qc2 ?qc3 ?qc4 ?qc5 ?qc6 ?_);case qc1=>exact HXS.out
   case qc2=>
    intro j u hj;rcases HS.out with h | ⟨g,off,e,hg,hI⟩
    · have hx0:xs= []:=List.eq_nil_of_length_eq_zero (by rw [HXS.out,h,Nat.zero_mul]);rw [hx0] at hj;simp at hj
    · cases e;rw [Addr.add_lit];exact Lib.cell?_alloc_some _ (hI j u hj)
   case qc3=>exact HONE.out
   case qc4=>unfold maxLen;omega
   case qc5=>omega
   case qc6=>simp
   intro v' w1 hown hgrow hnil;have HO:=Lib.hid hown;have HG:=Lib.hid hgrow;clear hown hgrow hnil;go_wp2_with fail;go_ret;have ho:=HO.out
   try simp only [Nat.zero_add,List.nil_append] at ho
   obtain ⟨o',c',rfl⟩:=owns_head ho;exact ⟨o',c',rfl,ho,((Below.refl _ w).alloc (Nat.le_refl _) _).grown HG.out (by simp) (by intro k hk;simp [Value.ownBlock] at hk;omega)⟩
theorem info_procs: (Tryz.prog.info? 60).map (fun i=>(i.zero,i.size,i.bytes))=some (some (.agg #[.int .i64 0,.int .i64 0,.int .i64 0,.slice none 0 0]),4,48):=by kernel_rfl
set_option maxHeartbeats 2000000 in
set_option maxRecDepth 100000 in
theorem clone_procs (o:Option Addr) (n c:Nat) (xs:List Value) (w:World) (hxs:xs.length=n*4) (hone:∀u ∈ xs,u.oneCell'=true) (h:SrcRow w o n xs) (hbig:n*48≤140737488355328):
 Calls Tryz.prog 77 #[.slice o n c] w (CloneP w 60 4 n xs):=by
 have qn:∀ (w:World) (a:Option Addr) (n c n' c':Nat),(binOp .eql 31 (.slice a n c) (.slice none n' c')).run Tryz.prog w= .ok (.bool a.isNone) w:=fun w a n c n' c'=>Lib.run_eql_slice_nil w _ _ a n c n' c' Tryz.underlying31
 obtain ⟨ie,hi,hz0,hsz,hby⟩:=info_parts info_procs;have HI:=Lib.hid (And.intro hi (And.intro hz0 (And.intro hsz hby)));have HS:=Lib.hid h;have HONE:=Lib.hid hone;have HXS:=Lib.hid hxs;clear hi hz0 hsz hby h hone hxs;cases o with
 | none=>
   have HQ:Hid (n=0):=Lib.hid (by
    rcases HS.out with h | ⟨_,_,h,_⟩
    · exact h
    · cases h)
   go_enter Tryz.func77,Tryz.ntmps77;go_wp2_with fail;go_ret;refine ⟨none,0,by rw [HQ.out];rfl, ?_,Below.refl _ _⟩;have hx0:xs= []:=List.eq_nil_of_length_eq_zero (by rw [HXS.out,HQ.out,Nat.zero_mul]);rw [HQ.out,hx0];exact World.ownsRow_nil _ _ _ _
 | some a=>
   go_enter Tryz.func77,Tryz.ntmps77;go_wp2_with (at_builtin;refine wpList_append_own _ rfl _ _ 31 rfl w.heap.size 60 ie (.agg #[.int .i64 0,.int .i64 0,.int .i64 0,.slice none 0 0]) 4 48 Tryz.underlying31 HI.out.1 HI.out.2.1 HI.out.2.2.1 HI.out.2.2.2 rfl (by decide) _ _ _ rfl (World.ownsRow_made w #[] 0 (Nat.le_refl _) (Nat.zero_le _) (by simp)) a n c xs rfl ?qc1 ?qc2 ?qc3 ?qc4 ?qc5 ?qc6 ?_);case qc1=>exact HXS.out
   case qc2=>
    intro j u hj;rcases HS.out with h | ⟨g,off,e,hg,hI⟩
    · have hx0:xs= []:=List.eq_nil_of_length_eq_zero (by rw [HXS.out,h,Nat.zero_mul]);rw [hx0] at hj;simp at hj
    · cases e;rw [Addr.add_lit];exact Lib.cell?_alloc_some _ (hI j u hj)
   case qc3=>exact HONE.out
   case qc4=>unfold maxLen;omega
   case qc5=>omega
   case qc6=>simp
   intro v' w1 hown hgrow hnil;have HO:=Lib.hid hown;have HG:=Lib.hid hgrow;clear hown hgrow hnil;go_wp2_with fail;go_ret;have ho:=HO.out
   try simp only [Nat.zero_add,List.nil_append] at ho
   obtain ⟨o',c',rfl⟩:=owns_head ho;exact ⟨o',c',rfl,ho,((Below.refl _ w).alloc (Nat.le_refl _) _).grown HG.out (by simp) (by intro k hk;simp [Value.ownBlock] at hk;omega)⟩
end Go.Proofs.YthfldokfnjpkmaaGreatDoor
namespace Go.Proofs.YthfldokfnjpkmaaGreatDoor
open Go.ChangeShapes Go.WideShapes Go.ChangeAt Go.RowKit
theorem flat_of {w:World} {g off N:Nat} (h:∀j,j < N→∃u,w.cell? ⟨g,off+j,none⟩=some u∧u.oneCell'=true):
 ∃X:List Value,X.length=N∧ (∀u ∈ X,u.oneCell'=true)∧ (∀ (j:Nat) (u:Value),X[j]? =some u→w.cell? ⟨g,off+j,none⟩=some u)∧∀j,j < N→X[j]? =w.cell? ⟨g,off+j,none⟩:=by
 have key:∀j,j < N→ ((List.range N).map (fun j=>(w.cell? ⟨g,off+j,none⟩).getD (.bool false)))[j]? =w.cell? ⟨g,off+j,none⟩:=fun j hj=>by
  obtain ⟨u,hu,-⟩:=h j hj;rw [List.getElem?_map,List.getElem?_range hj];simp [hu]
 refine ⟨(List.range N).map (fun j=>(w.cell? ⟨g,off+j,none⟩).getD (.bool false)),by simp,fun u hu=> ?_,fun j u hj=> ?_,key⟩
 · obtain ⟨j,hj,rfl⟩:=List.mem_map.1 hu;obtain ⟨v,hv,hv2⟩:=h j (List.mem_range.1 hj);rw [hv];exact hv2
 · have hjN:j < N:=by
    have:=(List.getElem?_eq_some_iff.1 hj).1;simpa using this
   rw [←key j hjN];exact hj
theorem src_ints {B:Nat} {w:World} {o:Option Addr} {l:List Int} (h:Row B o 1 (intAt w) l) (hB:B≤w.heap.size):SrcRow w o l.length (intsV l):=by
 rcases h.2 with h0 | ⟨g,off,rfl,hg,hi⟩
 · exact .inl h0
 · refine .inr ⟨g,off,rfl,by omega,fun j u hj=> ?_⟩;have hjl:j < l.length:=by
    have:=(List.getElem?_eq_some_iff.1 hj).1;simpa [intsV] using this
   have h2:=hi j hjl;unfold intAt at h2;rw [show off+j*1=off+j from by omega] at h2;rw [h2];simpa [intsV,hjl] using hj
theorem ints_one (l:List Int):∀u ∈ intsV l,u.oneCell'=true:=fun u hu=>by
 obtain ⟨x,-,rfl⟩:=List.mem_map.1 hu;rfl
theorem ints_len (l:List Int): (intsV l).length=l.length*1:=by simp [intsV]
theorem src_heads {B:Nat} {w:World} {o:Option Addr} {q:List (List Int)} (h:Row B o 1 (msgAt B w) q) (hB:B≤w.heap.size):
 ∃Y:List Value,Y.length=q.length*1∧ (∀u ∈ Y,u.oneCell'=true)∧SrcRow w o q.length Y∧∀j (hj:j < q.length),∃o c,Y[j]? =some (.slice o q[j].length c)∧Row B o 1 (intAt w) q[j]:=by
 rcases h.2 with h0 | ⟨g,off,rfl,hg,hi⟩
 · exact ⟨[],by simp [h0],by simp,.inl h0,fun j hj=>by omega⟩
 · have hc:∀j,j < q.length→∃u,w.cell? ⟨g,off+j,none⟩=some u∧u.oneCell'=true:=fun j hj=>by
    obtain ⟨o,c,h2,-⟩:=hi j hj;rw [show off+j*1=off+j from by omega] at h2;exact ⟨_,h2,rfl⟩
   obtain ⟨X,h1,h2,h3,h4⟩:=flat_of hc;refine ⟨X,by omega,h2,.inr ⟨g,off,rfl,by omega,h3⟩,fun j hj=> ?_⟩;obtain ⟨o,c,h5,h6⟩:=hi j hj;rw [show off+j*1=off+j from by omega] at h5;exact ⟨o,c,(h4 j hj).trans h5,h6⟩
theorem src_chans {B:Nat} {w:World} {o:Option Addr} {l:List ChanD} (h:Row B o 2 (chanAt B w) l) (hB:B≤w.heap.size):
 ∃X:List Value,X.length=l.length*2∧ (∀u ∈ X,u.oneCell'=true)∧SrcRow w o l.length X∧∀i (hi:i < l.length),X[i*2]? =some (.int .i64 l[i].shape)∧∃o c,X[i*2+1]? =some (.slice o l[i].queue.length c)∧Row B o 1 (msgAt B w) l[i].queue:=by
 rcases h.2 with h0 | ⟨g,off,rfl,hg,hi⟩
 · exact ⟨[],by simp [h0],by simp,.inl h0,fun j hj=>by omega⟩
 · have hc:∀j,j < l.length*2→∃u,w.cell? ⟨g,off+j,none⟩=some u∧u.oneCell'=true:=fun j hj=>by
    have hx:=hi (j / 2) (by omega);by_cases he:j % 2=0
    · have:=hx.c0;rw [show off+j / 2*2=off+j from by omega] at this;exact ⟨_,this,rfl⟩
    · obtain ⟨o,c,h2,-⟩:=hx.queue;rw [show off+j / 2*2+1=off+j from by omega] at h2;exact ⟨_,h2,rfl⟩
   obtain ⟨X,h1,h2,h3,h4⟩:=flat_of hc;refine ⟨X,h1,h2,.inr ⟨g,off,rfl,by omega,h3⟩,fun i hi'=> ?_⟩;have hx:=hi i hi';obtain ⟨o,c,h5,h6⟩:=hx.queue;exact ⟨(h4 _ (by omega)).trans hx.c0,o,c,(h4 _ (by omega)).trans h5,h6⟩
theorem src_procs {B:Nat} {w:World} {o:Option Addr} {l:List ProcessD} (h:Row B o 4 (processAt B w) l) (hB:B≤w.heap.size):
 ∃X:List Value,X.length=l.length*4∧ (∀u ∈ X,u.oneCell'=true)∧SrcRow w o l.length X∧∀i (hi:i < l.length),X[i*4]? =some (.int .i64 l[i].type)∧X[i*4+1]? =some (.int .i64 l[i].loc)∧X[i*4+2]? =some (.int .i64 l[i].prio)∧∃o c,X[i*4+3]? =some (.slice o l[i].frame.length c)∧Row B o 1 (intAt w) l[i].frame:=by
 rcases h.2 with h0 | ⟨g,off,rfl,hg,hi⟩
 · exact ⟨[],by simp [h0],by simp,.inl h0,fun j hj=>by omega⟩
 · have hc:∀j,j < l.length*4→∃u,w.cell? ⟨g,off+j,none⟩=some u∧u.oneCell'=true:=fun j hj=>by
    have hx:=hi (j / 4) (by omega);by_cases h0:j % 4=0
    · have:=hx.c0;rw [show off+j / 4*4=off+j from by omega] at this;exact ⟨_,this,rfl⟩
    by_cases h1:j % 4=1
    · have:=hx.c1;rw [show off+j / 4*4+1=off+j from by omega] at this;exact ⟨_,this,rfl⟩
    by_cases h2:j % 4=2
    · have:=hx.c2;rw [show off+j / 4*4+2=off+j from by omega] at this;exact ⟨_,this,rfl⟩
    · obtain ⟨o,c,h2,-⟩:=hx.frame;rw [show off+j / 4*4+3=off+j from by omega] at h2;exact ⟨_,h2,rfl⟩
   obtain ⟨X,h1,h2,h3,h4⟩:=flat_of hc;refine ⟨X,h1,h2,.inr ⟨g,off,rfl,by omega,h3⟩,fun i hi'=> ?_⟩;have hx:=hi i hi';obtain ⟨o,c,h5,h6⟩:=hx.frame;exact ⟨(h4 _ (by omega)).trans hx.c0,(h4 _ (by omega)).trans hx.c1,(h4 _ (by omega)).trans hx.c2,o,c,(h4 _ (by omega)).trans h5,h6⟩
structure Cp (w0:World) (s:StateD) (gv cv pv:Value) (R:Nat × Nat × Nat→RowS) (W:World):Prop where
 own:Own w0.heap.size W R
 ty:∀k,(R k).e≠33
 box:W.heap[w0.heap.size]? =some (.cells #[gv,cv,pv,.int .i64 s.last,.int .i64 s.alone,.int .i64 s.claim] 33 (0,0))
 res:W.heap[w0.heap.size+1]? =some (.cells #[.slice none 0 0,.slice none 0 0,.slice none 0 0,.int .i64 0,.int .i64 0,.int .i64 0] 33 (0,0))
 bel:Below w0.heap.size w0 W
theorem upd_ty {R:Nat × Nat × Nat→RowS} {k:Nat × Nat × Nat} {r:RowS} {T:TypeId} (h:∀k,(R k).e≠T) (hr:r.e≠T):∀q,(upd R k r q).e≠T:=fun q=>by
 unfold upd;split
 · exact hr
 · exact h q
section
variable {w0 W W1:World} {s:StateD} {gv cv pv:Value} {R:Nat × Nat × Nat→RowS}
theorem Cp.drew (h:Cp w0 s gv cv pv R W):Cp w0 s gv cv pv R W.drew:=⟨⟨fun k=>(h.own.row k).drew,h.own.ne⟩,h.ty,h.box,h.res,h.bel.drew⟩
theorem Cp.head (h:Cp w0 s gv cv pv R W) (hb:Below W.heap.size W W1) (k:Nat × Nat × Nat) (r:RowS) (hr:W1.ownsRow W.heap.size r.e r.size r.v r.n r.xs) (hrT:r.e≠33) (i:Nat) {gv' cv' pv':Value} (hc: (#[gv,cv,pv,Value.int .i64 s.last,.int .i64 s.alone,.int .i64 s.claim]:Array Value).setIfInBounds i r.v= #[gv',cv',pv',Value.int .i64 s.last,.int .i64 s.alone,.int .i64 s.claim]):
 Cp w0 s gv' cv' pv' (upd R k r) (W1.setCell ⟨w0.heap.size,i,none⟩ r.v):=by
 have hbox:W1.heap[w0.heap.size]? =_:=(hb.block _ (lt_of_block h.box)).trans h.box;have hres:W1.heap[w0.heap.size+1]? =_:=(hb.block _ (lt_of_block h.res)).trans h.res;have ho:=h.own.put h.bel.size hb k r hr;refine ⟨ho.otherT hbox (upd_ty h.ty hrT) _ _,upd_ty h.ty hrT, ?_, ?_,(h.bel.trans (hb.mono h.bel.size)).setCell (Nat.le_refl _) _⟩
 · rw [heap_setCell_same _ _ _ _ _ _ hbox,hc]
 · rw [heap_setCell_other _ _ _ _ (by exact fun e=>by simp at e)];exact hres
theorem Cp.cell (h:Cp w0 s gv cv pv R W) (hb:Below W.heap.size W W1) (k:Nat × Nat × Nat) (r:RowS) (hr:W1.ownsRow W.heap.size r.e r.size r.v r.n r.xs) (hrT:r.e≠33) {k2:Nat × Nat × Nat} (hk:k2≠k) {g n c:Nat} (hv: (R k2).v= .slice (some ⟨g,0,none⟩) n c) (hn: (R k2).n=n) (j:Nat) (u:Value):
 Cp w0 s gv cv pv (upd (upd R k r) k2 ⟨(R k2).e,(R k2).size,(R k2).v,(R k2).n,(R k2).xs.set j u⟩) (W1.setCell ⟨g,j,none⟩ u):=by
 have hbox:W1.heap[w0.heap.size]? =_:=(hb.block _ (lt_of_block h.box)).trans h.box;have hres:W1.heap[w0.heap.size+1]? =_:=(hb.block _ (lt_of_block h.res)).trans h.res;have ho:=h.own.put h.bel.size hb k r hr;have e2:upd R k r k2=R k2:=upd_ne R r hk;have ho2:=ho.set k2 (g:=g) (n:=n) (c:=c) (by rw [e2];exact hv) (by rw [e2];exact hn) j u;rw [e2] at ho2;have hg:=(h.own.row k2).lt g (by rw [hv];rfl);have hne1:g≠w0.heap.size:=fun e=>owns_neObj (h.own.row k2) h.box (h.ty k2) (by rw [hv,←e];rfl)
 have hne2:g≠w0.heap.size+1:=fun e=>owns_neObj (h.own.row k2) h.res (h.ty k2) (by rw [hv,←e];rfl)
 refine ⟨ho2,upd_ty (upd_ty h.ty hrT) (h.ty k2), ?_, ?_,(h.bel.trans (hb.mono h.bel.size)).setCell hg.1 _⟩
 · rw [heap_setCell_other _ _ _ _ (by exact fun e=>hne1 e.symm)];exact hbox
 · rw [heap_setCell_other _ _ _ _ (by exact fun e=>hne2 e.symm)];exact hres
end
def ChOk (R:Nat × Nat × Nat→RowS) (xs:List Value) (i:Nat) (c:ChanD):Prop:=xs[i*2]? =some (.int .i64 c.shape)∧xs[i*2+1]? =some (R (kQ i)).v∧IsMsgs R i c.queue
def PrOk (R:Nat × Nat × Nat→RowS) (xs:List Value) (i:Nat) (p:ProcessD):Prop:=xs[i*4]? =some (.int .i64 p.type)∧xs[i*4+1]? =some (.int .i64 p.loc)∧xs[i*4+2]? =some (.int .i64 p.prio)∧xs[i*4+3]? =some (R (kF i)).v∧IsInts (R (kF i)) p.frame
theorem k_ne {a b c a' b' c':Nat} (h:a≠a'∨b≠b'∨c≠c'): (a,b,c)≠ (a',b',c'):=by
 intro e;injection e with e1 e2
 injection e2 with e2 e3
 omega
def Agree (R R':Nat × Nat × Nat→RowS) (P:Nat × Nat × Nat→Prop):Prop:=∀k,P k→R' k=R k
theorem ChOk.of {R R':Nat × Nat × Nat→RowS} {xs xs':List Value} {i:Nat} {c:ChanD} (h:ChOk R xs i c) (hq:R' (kQ i)=R (kQ i)) (hm:∀j,R' (kM i j)=R (kM i j)) (h0:xs'[i*2]? =xs[i*2]?) (h1:xs'[i*2+1]? =xs[i*2+1]?):ChOk R' xs' i c:=by
 obtain ⟨a,b,o,k,ys,h2,h3⟩:=h;exact ⟨h0.trans a,by rw [h1,hq];exact b,o,k,ys,hq.trans h2,fun j hj=>by rw [hm];exact h3 j hj⟩
theorem PrOk.of {R R':Nat × Nat × Nat→RowS} {xs xs':List Value} {i:Nat} {p:ProcessD} (h:PrOk R xs i p) (hf:R' (kF i)=R (kF i)) (h0:xs'[i*4]? =xs[i*4]?) (h1:xs'[i*4+1]? =xs[i*4+1]?) (h2:xs'[i*4+2]? =xs[i*4+2]?) (h3:xs'[i*4+3]? =xs[i*4+3]?):PrOk R' xs' i p:=by
 obtain ⟨a,b,c,d,e⟩:=h;exact ⟨h0.trans a,h1.trans b,h2.trans c,by rw [h3,hf];exact d,by rw [hf];exact e⟩
end Go.Proofs.YthfldokfnjpkmaaGreatDoor
namespace Go.Proofs.YthfldokfnjpkmaaGreatDoor
open Go.ChangeShapes Go.WideShapes Go.ChangeAt Go.RowKit
structure LensB (s:StateD):Prop where
 g:s.globals.length*8≤140737488355328
 c:s.chans.length*32≤140737488355328
 p:s.procs.length*48≤140737488355328
 q:∀x ∈ s.chans,x.queue.length*24≤140737488355328∧∀y ∈ x.queue,y.length*8≤140737488355328
 f:∀x ∈ s.procs,x.frame.length*8≤140737488355328
def OI (w0:World) (s:StateD) (gv:Value) (co:Option Addr) (cc:Nat) (pv:Value) (X0:List Value) (i:Nat) (W:World):Prop:=
 ∃R xs,Cp w0 s gv (.slice co s.chans.length cc) pv R W∧R kG= ⟨2,1,gv,s.globals.length,intsV s.globals⟩∧R kC= ⟨81,2,.slice co s.chans.length cc,s.chans.length,xs⟩∧
  (∀j (hj:j < s.chans.length),j < i→ChOk R xs j s.chans[j])∧∀j,i≤j→xs[j*2]? =X0[j*2]? ∧xs[j*2+1]? =X0[j*2+1]?
def II (w0:World) (s:StateD) (gv:Value) (co:Option Addr) (cc:Nat) (pv:Value) (X0:List Value) (i:Nat) (c:ChanD) (qo:Option Addr) (qc:Nat) (Y0:List Value) (k:Nat) (W:World):Prop:=
 ∃R xs ys,Cp w0 s gv (.slice co s.chans.length cc) pv R W∧R kG= ⟨2,1,gv,s.globals.length,intsV s.globals⟩∧R kC= ⟨81,2,.slice co s.chans.length cc,s.chans.length,xs⟩∧
  (∀j (hj:j < s.chans.length),j < i→ChOk R xs j s.chans[j])∧ (∀j,i < j→xs[j*2]? =X0[j*2]? ∧xs[j*2+1]? =X0[j*2+1]?)∧
  xs[i*2]? =some (.int .i64 c.shape)∧xs[i*2+1]? =some (.slice qo c.queue.length qc)∧R (kQ i)= ⟨82,1,.slice qo c.queue.length qc,c.queue.length,ys⟩∧
  (∀j (hj:j < c.queue.length),j < k→ys[j]? =some (R (kM i j)).v∧IsInts (R (kM i j)) c.queue[j])∧∀j,k≤j→ys[j]? =Y0[j]?
section
variable {w0 W W1:World} {s:StateD} {gv pv:Value} {co:Option Addr} {cc:Nat} {X0:List Value} {i:Nat}
theorem set_ne' {l:List Value} {i j:Nat} {u:Value} (h:i≠j): (l.set i u)[j]? =l[j]? :=List.getElem?_set_ne h
theorem OI.enter (h:OI w0 s gv co cc pv X0 i W) (hi:i < s.chans.length) {gc:Nat} (hco:co=some ⟨gc,0,none⟩) {mo:Option Addr} {mc:Nat} {Y0:List Value} (h0:X0[i*2]? =some (.int .i64 s.chans[i].shape)) (h1:X0[i*2+1]? =some (.slice mo s.chans[i].queue.length mc))
 (hb:Below W.heap.size W W1) {qo:Option Addr} {qc:Nat} (hr:W1.ownsRow W.heap.size 82 1 (.slice qo s.chans[i].queue.length qc) s.chans[i].queue.length Y0):
 II w0 s gv co cc pv X0 i s.chans[i] qo qc Y0 0 (W1.setCell ⟨gc,i*2+1,none⟩ (.slice qo s.chans[i].queue.length qc)):=by
 obtain ⟨R,xs,hc,hG,hC,hd,hl⟩:=h;have hx:=hl i (Nat.le_refl _);have hcp:=hc.cell hb (kQ i) ⟨82,1,.slice qo s.chans[i].queue.length qc,s.chans[i].queue.length,Y0⟩ hr (by dsimp only;decide) (k2:=kC) (k_ne (.inl (by simp [kG,kC,kP,kQ,kM,kF]))) (g:=gc) (n:=s.chans.length) (c:=cc) (by rw [hC,hco]) (by rw [hC]) (i*2+1) (.slice qo s.chans[i].queue.length qc);have hxl:=(hc.own.row kC).1;rw [hC] at hxl hcp;dsimp only at hxl hcp;refine ⟨_,xs.set (i*2+1) (.slice qo s.chans[i].queue.length qc),Y0,hcp, ?_, ?_, ?_, ?_, ?_, ?_, ?_, ?_, ?_⟩
 · rw [upd_ne _ _ (k_ne (.inl (by simp [kG,kC,kP,kQ,kM,kF]))),upd_ne _ _ (k_ne (.inl (by simp [kG,kC,kP,kQ,kM,kF])))];exact hG
 · rw [upd_same]
 · intro j hj hji;refine (hd j hj hji).of ?_ (fun k=> ?_) (set_ne' (by omega)) (set_ne' (by omega))
   · rw [upd_ne _ _ (k_ne (.inl (by simp [kG,kC,kP,kQ,kM,kF]))),upd_ne _ _ (k_ne (.inr (.inl (by simp only [kQ,kM,kF];omega))))]
   · rw [upd_ne _ _ (k_ne (.inl (by simp [kG,kC,kP,kQ,kM,kF]))),upd_ne _ _ (k_ne (.inl (by simp [kG,kC,kP,kQ,kM,kF])))]
 · intro j hj;rw [set_ne' (by omega),set_ne' (by omega)];exact hl j (by omega)
 · rw [set_ne' (by omega),hx.1,h0]
 · rw [List.getElem?_set_self (by omega)]
 · rw [upd_ne _ _ (k_ne (.inl (by simp [kG,kC,kP,kQ,kM,kF]))),upd_same]
 · intro j hj hk;omega
 · intro j hj;rfl
theorem II.step {c:ChanD} {qo:Option Addr} {qc k:Nat} {Y0:List Value} (h:II w0 s gv co cc pv X0 i c qo qc Y0 k W) (hk:k < c.queue.length) {gq:Nat} (hqo:qo=some ⟨gq,0,none⟩) (hb:Below W.heap.size W W1) {no:Option Addr} {nc:Nat} (hr:W1.ownsRow W.heap.size 2 1 (.slice no c.queue[k].length nc) c.queue[k].length (intsV c.queue[k])):
 II w0 s gv co cc pv X0 i c qo qc Y0 (k+1) (W1.setCell ⟨gq,k,none⟩ (.slice no c.queue[k].length nc)):=by
 obtain ⟨R,xs,ys,hc,hG,hC,hd,hl,x0,x1,hQ,hm,hy⟩:=h;have hcp:=hc.cell hb (kM i k) ⟨2,1,.slice no c.queue[k].length nc,c.queue[k].length,intsV c.queue[k]⟩ hr (by dsimp only;decide) (k2:=kQ i) (k_ne (.inl (by simp [kG,kC,kP,kQ,kM,kF]))) (g:=gq) (n:=c.queue.length) (c:=qc) (by rw [hQ,hqo]) (by rw [hQ]) k (.slice no c.queue[k].length nc);have hyl:=(hc.own.row (kQ i)).1;rw [hQ] at hyl hcp;dsimp only at hyl hcp;refine ⟨_,xs,ys.set k (.slice no c.queue[k].length nc),hcp, ?_, ?_, ?_,hl,x0,x1, ?_, ?_, ?_⟩
 · rw [upd_ne _ _ (k_ne (.inl (by simp [kG,kC,kP,kQ,kM,kF]))),upd_ne _ _ (k_ne (.inl (by simp [kG,kC,kP,kQ,kM,kF])))];exact hG
 · rw [upd_ne _ _ (k_ne (.inl (by simp [kG,kC,kP,kQ,kM,kF]))),upd_ne _ _ (k_ne (.inl (by simp [kG,kC,kP,kQ,kM,kF])))];exact hC
 · intro j hj hji;refine (hd j hj hji).of ?_ (fun k=> ?_) rfl rfl
   · rw [upd_ne _ _ (k_ne (.inr (.inl (by simp only [kQ,kM,kF];omega)))),upd_ne _ _ (k_ne (.inl (by simp [kG,kC,kP,kQ,kM,kF])))]
   · rw [upd_ne _ _ (k_ne (.inl (by simp [kG,kC,kP,kQ,kM,kF]))),upd_ne _ _ (k_ne (.inr (.inl (by simp only [kQ,kM,kF];omega))))]
 · rw [upd_same]
 · intro j hj hjk;by_cases e:j=k
   · subst e;rw [List.getElem?_set_self (by omega),upd_ne _ _ (k_ne (.inl (by simp [kG,kC,kP,kQ,kM,kF]))),upd_same];exact ⟨rfl,no,nc,rfl⟩
   · rw [set_ne' (by omega),upd_ne _ _ (k_ne (.inl (by simp [kG,kC,kP,kQ,kM,kF]))),upd_ne _ _ (k_ne (.inr (.inr (by simp only [kQ,kM,kF];omega))))];exact hm j hj (by omega)
 · intro j hj;rw [set_ne' (by omega)];exact hy j (by omega)
theorem II.leave {qo:Option Addr} {qc:Nat} {Y0:List Value} (hi:i < s.chans.length) (h:II w0 s gv co cc pv X0 i s.chans[i] qo qc Y0 s.chans[i].queue.length W):OI w0 s gv co cc pv X0 (i+1) W:=by
 obtain ⟨R,xs,ys,hc,hG,hC,hd,hl,x0,x1,hQ,hm,hy⟩:=h;refine ⟨R,xs,hc,hG,hC,fun j hj hji=> ?_,fun j hj=>hl j (by omega)⟩;by_cases e:j=i
 · subst e;exact ⟨x0,by rw [hQ];exact x1,qo,qc,ys,hQ,fun k hk=>hm k hk hk⟩
 · exact hd j hj (by omega)
theorem OI.drew (h:OI w0 s gv co cc pv X0 i W):OI w0 s gv co cc pv X0 i W.drew:=by
 obtain ⟨R,xs,hc,h2⟩:=h;exact ⟨R,xs,hc.drew,h2⟩
theorem II.drew {c:ChanD} {qo:Option Addr} {qc k:Nat} {Y0:List Value} (h:II w0 s gv co cc pv X0 i c qo qc Y0 k W):II w0 s gv co cc pv X0 i c qo qc Y0 k W.drew:=by
 obtain ⟨R,xs,ys,hc,h2⟩:=h;exact ⟨R,xs,ys,hc.drew,h2⟩
theorem OI.bel (h:OI w0 s gv co cc pv X0 i W):Below w0.heap.size w0 W:=by obtain ⟨R,xs,hc,h2⟩:=h;exact hc.bel
theorem II.bel {c:ChanD} {qo:Option Addr} {qc k:Nat} {Y0:List Value} (h:II w0 s gv co cc pv X0 i c qo qc Y0 k W):Below w0.heap.size w0 W:=by obtain ⟨R,xs,ys,hc,h2⟩:=h;exact hc.bel
theorem OI.box (h:OI w0 s gv co cc pv X0 i W):W.heap[w0.heap.size]? =some (.cells #[gv,.slice co s.chans.length cc,pv,.int .i64 s.last,.int .i64 s.alone,.int .i64 s.claim] 33 (0,0)):=by obtain ⟨R,xs,hc,h2⟩:=h;exact hc.box
theorem II.box {c:ChanD} {qo:Option Addr} {qc k:Nat} {Y0:List Value} (h:II w0 s gv co cc pv X0 i c qo qc Y0 k W):W.heap[w0.heap.size]? =some (.cells #[gv,.slice co s.chans.length cc,pv,.int .i64 s.last,.int .i64 s.alone,.int .i64 s.claim] 33 (0,0)):=by obtain ⟨R,xs,ys,hc,h2⟩:=h;exact hc.box
theorem OI.form (h:OI w0 s gv co cc pv X0 i W) (hi:i < s.chans.length):∃g,co=some ⟨g,0,none⟩:=by
 obtain ⟨R,xs,hc,hG,hC,-⟩:=h;have hr:=hc.own.row kC;rw [hC] at hr;obtain ⟨g,cap,e⟩:=Joins.ownsRow_form hr (by dsimp only;omega);injection e with e1
 exact ⟨g,e1⟩
theorem OI.at (h:OI w0 s gv co cc pv X0 i W) (hi:i < s.chans.length) {g:Nat} (hco:co=some ⟨g,0,none⟩):g < W.heap.size∧W.cell? ⟨g,i*2+1,none⟩=X0[i*2+1]? ∧W.frozen? ⟨g,i*2+1,none⟩=false:=by
 obtain ⟨R,xs,hc,hG,hC,hd,hl⟩:=h;have hr:=hc.own.row kC;rw [hC] at hr;dsimp only at hr;subst hco;exact ⟨(hr.lt g rfl).2,(hr.cellAt _ (by omega)).trans (hl i (Nat.le_refl _)).2,hr.frozenAt _⟩
theorem II.form {c:ChanD} {qo:Option Addr} {qc k:Nat} {Y0:List Value} (h:II w0 s gv co cc pv X0 i c qo qc Y0 k W) (hk:k < c.queue.length):∃g,qo=some ⟨g,0,none⟩:=by
 obtain ⟨R,xs,ys,hc,hG,hC,hd,hl,x0,x1,hQ,hm,hy⟩:=h;have hr:=hc.own.row (kQ i);rw [hQ] at hr;obtain ⟨g,cap,e⟩:=Joins.ownsRow_form hr (by dsimp only;omega);injection e with e1
 exact ⟨g,e1⟩
theorem II.at {c:ChanD} {qo:Option Addr} {qc k:Nat} {Y0:List Value} (h:II w0 s gv co cc pv X0 i c qo qc Y0 k W) (hk:k < c.queue.length) {g:Nat} (hqo:qo=some ⟨g,0,none⟩):g < W.heap.size∧W.cell? ⟨g,k,none⟩=Y0[k]? ∧W.frozen? ⟨g,k,none⟩=false:=by
 obtain ⟨R,xs,ys,hc,hG,hC,hd,hl,x0,x1,hQ,hm,hy⟩:=h;have hr:=hc.own.row (kQ i);rw [hQ] at hr;dsimp only at hr;subst hqo;exact ⟨(hr.lt g rfl).2,(hr.cellAt _ (by omega)).trans (hy k (Nat.le_refl _)),hr.frozenAt _⟩
theorem II.chan {c:ChanD} {qo:Option Addr} {qc k:Nat} {Y0:List Value} (h:II w0 s gv co cc pv X0 i c qo qc Y0 k W) (hi:i < s.chans.length) {g:Nat} (hco:co=some ⟨g,0,none⟩):g < W.heap.size∧W.cell? ⟨g,i*2+1,none⟩=some (.slice qo c.queue.length qc):=by
 obtain ⟨R,xs,ys,hc,hG,hC,hd,hl,x0,x1,hQ,hm,hy⟩:=h;have hr:=hc.own.row kC;rw [hC] at hr;dsimp only at hr;subst hco;exact ⟨(hr.lt g rfl).2,(hr.cellAt _ (by omega)).trans x1⟩
end
def PI (w0:World) (s:StateD) (gv:Value) (co:Option Addr) (cc:Nat) (po:Option Addr) (pc:Nat) (X0:List Value) (i:Nat) (W:World):Prop:=
 ∃R xs,Cp w0 s gv (.slice co s.chans.length cc) (.slice po s.procs.length pc) R W∧R kG= ⟨2,1,gv,s.globals.length,intsV s.globals⟩∧IsChans R co cc s.chans∧
  R kP= ⟨60,4,.slice po s.procs.length pc,s.procs.length,xs⟩∧ (∀j (hj:j < s.procs.length),j < i→PrOk R xs j s.procs[j])∧∀j,i≤j→xs[j*4]? =X0[j*4]? ∧xs[j*4+1]? =X0[j*4+1]? ∧xs[j*4+2]? =X0[j*4+2]? ∧xs[j*4+3]? =X0[j*4+3]?
section
variable {w0 W W1:World} {s:StateD} {gv pv:Value} {co po:Option Addr} {cc pc:Nat} {X0:List Value} {i:Nat}
theorem IsChans.of {R R':Nat × Nat × Nat→RowS} {l:List ChanD} (h:IsChans R co cc l) (h1:R' kC=R kC) (h2:∀i,R' (kQ i)=R (kQ i)) (h3:∀i j,R' (kM i j)=R (kM i j)):IsChans R' co cc l:=by
 obtain ⟨xs,hx,hi⟩:=h;refine ⟨xs,h1.trans hx,fun i hi'=> ?_⟩;obtain ⟨a,b,o,c,ys,hq,hm⟩:=hi i hi';exact ⟨a,by rw [h2];exact b,o,c,ys,(h2 i).trans hq,fun j hj=>by rw [h3];exact hm j hj⟩
theorem OI.procs (h:OI w0 s gv co cc pv X0 s.chans.length W) (hb:Below W.heap.size W W1) {Y0:List Value} (hr:W1.ownsRow W.heap.size 60 4 (.slice po s.procs.length pc) s.procs.length Y0):PI w0 s gv co cc po pc Y0 0 (W1.setCell ⟨w0.heap.size,2,none⟩ (.slice po s.procs.length pc)):=by
 obtain ⟨R,xs,hc,hG,hC,hd,hl⟩:=h;refine ⟨_,Y0,hc.head hb kP ⟨60,4,.slice po s.procs.length pc,s.procs.length,Y0⟩ hr (by dsimp only;decide) 2 rfl, ?_, ?_, ?_,fun j hj hji=>by omega,fun j hj=>⟨rfl,rfl,rfl,rfl⟩⟩
 · rw [upd_ne _ _ (k_ne (.inl (by simp [kG,kC,kP,kQ,kM,kF])))];exact hG
 · refine IsChans.of (R:=R) ⟨xs,hC,fun j hj=>hd j hj hj⟩ ?_ (fun i=> ?_) (fun i j=> ?_)
   all_goals exact upd_ne _ _ (k_ne (.inl (by simp [kG,kC,kP,kQ,kM,kF])))
 · rw [upd_same]
theorem PI.step (h:PI w0 s gv co cc po pc X0 i W) (hi:i < s.procs.length) {gp:Nat} (hpo:po=some ⟨gp,0,none⟩) (h0:X0[i*4]? =some (.int .i64 s.procs[i].type)) (h1:X0[i*4+1]? =some (.int .i64 s.procs[i].loc)) (h2:X0[i*4+2]? =some (.int .i64 s.procs[i].prio))
 (hb:Below W.heap.size W W1) {fo:Option Addr} {fc:Nat} (hr:W1.ownsRow W.heap.size 2 1 (.slice fo s.procs[i].frame.length fc) s.procs[i].frame.length (intsV s.procs[i].frame)):
 PI w0 s gv co cc po pc X0 (i+1) (W1.setCell ⟨gp,i*4+3,none⟩ (.slice fo s.procs[i].frame.length fc)):=by
 obtain ⟨R,xs,hc,hG,hC,hP,hd,hl⟩:=h;have hx:=hl i (Nat.le_refl _);have hcp:=hc.cell hb (kF i) ⟨2,1,.slice fo s.procs[i].frame.length fc,s.procs[i].frame.length,intsV s.procs[i].frame⟩ hr (by dsimp only;decide) (k2:=kP) (k_ne (.inl (by simp [kG,kC,kP,kQ,kM,kF]))) (g:=gp) (n:=s.procs.length) (c:=pc) (by rw [hP,hpo]) (by rw [hP]) (i*4+3) (.slice fo s.procs[i].frame.length fc);have hxl:=(hc.own.row kP).1;rw [hP] at hxl hcp;dsimp only at hxl hcp;refine ⟨_,xs.set (i*4+3) (.slice fo s.procs[i].frame.length fc),hcp, ?_, ?_, ?_, ?_, ?_⟩
 · rw [upd_ne _ _ (k_ne (.inl (by simp [kG,kC,kP,kQ,kM,kF]))),upd_ne _ _ (k_ne (.inl (by simp [kG,kC,kP,kQ,kM,kF])))];exact hG
 · refine hC.of ?_ (fun i=> ?_) (fun i j=> ?_)
   all_goals rw [upd_ne _ _ (k_ne (.inl (by simp [kG,kC,kP,kQ,kM,kF]))),upd_ne _ _ (k_ne (.inl (by simp [kG,kC,kP,kQ,kM,kF])))]
 · rw [upd_same]
 · intro j hj hji;by_cases e:j=i
   · subst e;refine ⟨?_, ?_, ?_, ?_, ?_⟩
     · rw [set_ne' (by omega),hx.1,h0]
     · rw [set_ne' (by omega),hx.2.1,h1]
     · rw [set_ne' (by omega),hx.2.2.1,h2]
     · rw [List.getElem?_set_self (by omega),upd_ne _ _ (k_ne (.inl (by simp [kG,kC,kP,kQ,kM,kF]))),upd_same]
     · rw [upd_ne _ _ (k_ne (.inl (by simp [kG,kC,kP,kQ,kM,kF]))),upd_same];exact ⟨fo,fc,rfl⟩
   · refine (hd j hj (by omega)).of ?_ (set_ne' (by omega)) (set_ne' (by omega)) (set_ne' (by omega)) (set_ne' (by omega));rw [upd_ne _ _ (k_ne (.inl (by simp [kG,kC,kP,kQ,kM,kF]))),upd_ne _ _ (k_ne (.inr (.inl (by simp only [kQ,kM,kF];omega))))]
 · intro j hj;rw [set_ne' (by omega),set_ne' (by omega),set_ne' (by omega),set_ne' (by omega)];exact hl j (by omega)
theorem PI.drew (h:PI w0 s gv co cc po pc X0 i W):PI w0 s gv co cc po pc X0 i W.drew:=by
 obtain ⟨R,xs,hc,h2⟩:=h;exact ⟨R,xs,hc.drew,h2⟩
theorem PI.bel (h:PI w0 s gv co cc po pc X0 i W):Below w0.heap.size w0 W:=by obtain ⟨R,xs,hc,h2⟩:=h;exact hc.bel
theorem PI.box (h:PI w0 s gv co cc po pc X0 i W):W.heap[w0.heap.size]? =some (.cells #[gv,.slice co s.chans.length cc,.slice po s.procs.length pc,.int .i64 s.last,.int .i64 s.alone,.int .i64 s.claim] 33 (0,0)):=by obtain ⟨R,xs,hc,h2⟩:=h;exact hc.box
theorem PI.res (h:PI w0 s gv co cc po pc X0 i W):W.heap[w0.heap.size+1]? =some (.cells #[.slice none 0 0,.slice none 0 0,.slice none 0 0,.int .i64 0,.int .i64 0,.int .i64 0] 33 (0,0)):=by obtain ⟨R,xs,hc,h2⟩:=h;exact hc.res
theorem PI.form (h:PI w0 s gv co cc po pc X0 i W) (hi:i < s.procs.length):∃g,po=some ⟨g,0,none⟩:=by
 obtain ⟨R,xs,hc,hG,hC,hP,-⟩:=h;have hr:=hc.own.row kP;rw [hP] at hr;obtain ⟨g,cap,e⟩:=Joins.ownsRow_form hr (by dsimp only;omega);injection e with e1
 exact ⟨g,e1⟩
theorem PI.at (h:PI w0 s gv co cc po pc X0 i W) (hi:i < s.procs.length) {g:Nat} (hpo:po=some ⟨g,0,none⟩):g < W.heap.size∧W.cell? ⟨g,i*4+3,none⟩=X0[i*4+3]? ∧W.frozen? ⟨g,i*4+3,none⟩=false:=by
 obtain ⟨R,xs,hc,hG,hC,hP,hd,hl⟩:=h;have hr:=hc.own.row kP;rw [hP] at hr;dsimp only at hr;subst hpo;exact ⟨(hr.lt g rfl).2,(hr.cellAt _ (by omega)).trans (hl i (Nat.le_refl _)).2.2.2,hr.frozenAt _⟩
theorem PI.so {go:Option Addr} {gc:Nat} (h:PI w0 s (.slice go s.globals.length gc) co cc po pc X0 s.procs.length W):SO w0.heap.size W ⟨go,gc,co,cc,po,pc⟩ s:=by
 obtain ⟨R,xs,hc,hG,hC,hP,hd,hl⟩:=h;exact ⟨R,hc.own,⟨hG,hC,xs,hP,fun j hj=>hd j hj hj⟩⟩
theorem PI.done {go:Option Addr} {gc:Nat} (h:PI w0 s (.slice go s.globals.length gc) co cc po pc X0 s.procs.length W) (v0 v1 v2 v3 v4 v5:Value):
 SO w0.heap.size ((((((W.setCell ⟨w0.heap.size+1,0,none⟩ v0).setCell ⟨w0.heap.size+1,1,none⟩ v1).setCell ⟨w0.heap.size+1,2,none⟩ v2).setCell ⟨w0.heap.size+1,3,none⟩ v3).setCell ⟨w0.heap.size+1,4,none⟩ v4).setCell ⟨w0.heap.size+1,5,none⟩ v5) ⟨go,gc,co,cc,po,pc⟩ s∧
 Below w0.heap.size w0 ((((((W.setCell ⟨w0.heap.size+1,0,none⟩ v0).setCell ⟨w0.heap.size+1,1,none⟩ v1).setCell ⟨w0.heap.size+1,2,none⟩ v2).setCell ⟨w0.heap.size+1,3,none⟩ v3).setCell ⟨w0.heap.size+1,4,none⟩ v4).setCell ⟨w0.heap.size+1,5,none⟩ v5):=by
 obtain ⟨R,xs,hc,hG,hC,hP,hd,hl⟩:=h;have hne:∀k,(R k).v.ownBlock≠some (w0.heap.size+1):=fun k=>owns_neObj (hc.own.row k) hc.res (hc.ty k)
 refine ⟨⟨R,((((((hc.own.other _ _ hne).other _ _ hne).other _ _ hne).other _ _ hne).other _ _ hne).other _ _ hne),hG,hC,xs,hP,fun j hj=>hd j hj hj⟩, ?_⟩;exact (((((hc.bel.setCell (by simp) _).setCell (by simp) _).setCell (by simp) _).setCell (by simp) _).setCell (by simp) _).setCell (by simp) _
end
theorem SO.otherT {B:Nat} {w:World} {h:SH} {s:StateD} {R:Nat × Nat × Nat→RowS} (ho:Own B w R) (hs:Spl R h s) {b:Nat} {cs:Array Value} {T:TypeId} {fr:Nat × Nat} (hb:w.heap[b]? =some (.cells cs T fr)) (hT:∀k,(R k).e≠T) (i:Nat) (u:Value):SO B (w.setCell ⟨b,i,none⟩ u) h s:=⟨R,ho.otherT hb hT i u,hs⟩
end Go.Proofs.YthfldokfnjpkmaaGreatDoor
