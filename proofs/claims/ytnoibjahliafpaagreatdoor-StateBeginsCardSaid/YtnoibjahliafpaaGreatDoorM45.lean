/- A law of the walk, over any program: a scope in which the run jumps to three labels, with a count that stands in no slot. -/
import Derived.ScopeJumps
import Derived.WalkMore
import Derived.Tactics
import Derived.Test.YtnoibjahliafpaaGreatDoorM42
import Derived.Test.YtnoibjahliafpaaGreatDoorM25
import Derived.Test.YtnoibjahliafpaaGreatDoorM44
import Derived.Test.YtnoibjahliafpaaGreatDoorM26
set_option linter.unusedVariables false
set_option linter.unusedSimpArgs false
namespace Go.Proofs.YtnoibjahliafpaaGreatDoor
open Go
def jump3 (l0 l1 l2:Nat) (J0 J1 J2:Act→World→Prop) (Q:Exit→Act→World→Prop):Exit→Act→World→Prop
 | .goto l,a,w=>(l=l0∧J0 a w)∨ (l=l1∧J1 a w)∨ (l=l2∧J2 a w)
 | e,a,w=>Q e a w
section
variable {P:Program} {a:Act} {w:World} {Q:Exit→Act→World→Prop}
theorem wp_scope_ghost3 {c r0 r1 r2:Code} (l0 l1 l2:Nat) (J0 J1 J2:Nat→Act→World→Prop) (hf0:findLabel c l0=some r0) (hf1:findLabel c l1=some r1) (hf2:findLabel c l2=some r2)
 (first:c.wp P (jump3 l0 l1 l2 (fun a w=>∃m,J0 m a w) (fun a w=>∃m,J1 m a w) (fun a w=>∃m,J2 m a w) Q) a w)
 (pass0:∀m a w,J0 m a w→r0.wp P (jump3 l0 l1 l2 (fun a' w'=>∃m',m' < m∧J0 m' a' w') (fun a' w'=>∃m',m' < m∧J1 m' a' w') (fun a' w'=>∃m',m' < m∧J2 m' a' w') Q) a w)
 (pass1:∀m a w,J1 m a w→r1.wp P (jump3 l0 l1 l2 (fun a' w'=>∃m',m' < m∧J0 m' a' w') (fun a' w'=>∃m',m' < m∧J1 m' a' w') (fun a' w'=>∃m',m' < m∧J2 m' a' w') Q) a w)
 (pass2:∀m a w,J2 m a w→r2.wp P (jump3 l0 l1 l2 (fun a' w'=>∃m',m' < m∧J0 m' a' w') (fun a' w'=>∃m',m' < m∧J1 m' a' w') (fun a' w'=>∃m',m' < m∧J2 m' a' w') Q) a w): (Code.scope c).wp P Q a w:=by
 intro b k cs;have hg0:gotoIn l0 (.inScope c :: k)=some (.code r0 :: .inScope c :: k):=by simp [gotoIn,hf0]
 have hg1:gotoIn l1 (.inScope c :: k)=some (.code r1 :: .inScope c :: k):=by simp [gotoIn,hf1]
 have hg2:gotoIn l2 (.inScope c :: k)=some (.code r2 :: .inScope c :: k):=by simp [gotoIn,hf2]
 have key:∀m a w,(J0 m a w→∃e a' w',Q e a' w'∧Arrives P (lone (b.at a (.code r0 :: .inScope c :: k)) cs w) b k cs e a' w')∧ (J1 m a w→∃e a' w',Q e a' w'∧Arrives P (lone (b.at a (.code r1 :: .inScope c :: k)) cs w) b k cs e a' w')∧ (J2 m a w→∃e a' w',Q e a' w'∧Arrives P (lone (b.at a (.code r2 :: .inScope c :: k)) cs w) b k cs e a' w'):=by
  intro m
  induction m using Nat.strongRecOn with
  | _ m ih=>
    intro a w;have one:∀r:Code,r.wp P (jump3 l0 l1 l2 (fun a' w'=>∃m',m' < m∧J0 m' a' w') (fun a' w'=>∃m',m' < m∧J1 m' a' w') (fun a' w'=>∃m',m' < m∧J2 m' a' w') Q) a w→∃e a' w',Q e a' w'∧Arrives P (lone (b.at a (.code r :: .inScope c :: k)) cs w) b k cs e a' w':=by
     intro r hr;obtain ⟨e,a₁,w₁,hq,harr⟩:=hr b (.inScope c :: k) cs;cases e with
     | normal=>exact ⟨.normal,a₁,w₁,hq,Steps.trans harr (.one step_inScope)⟩
     | exit id=>exact ⟨.exit id,a₁,w₁,hq,fun k' hk=>harr k' (by simp [exitTo,hk])⟩
     | goto l'=>
       rcases hq with ⟨rfl,m',hlt,hJ'⟩ | ⟨rfl,m',hlt,hJ'⟩ | ⟨rfl,m',hlt,hJ'⟩
       · obtain ⟨e₂,a₂,w₂,hq₂,harr₂⟩:=(ih m' hlt a₁ w₁).1 hJ';exact ⟨e₂,a₂,w₂,hq₂,.of_steps (harr _ hg0) harr₂⟩
       · obtain ⟨e₂,a₂,w₂,hq₂,harr₂⟩:=(ih m' hlt a₁ w₁).2.1 hJ';exact ⟨e₂,a₂,w₂,hq₂,.of_steps (harr _ hg1) harr₂⟩
       · obtain ⟨e₂,a₂,w₂,hq₂,harr₂⟩:=(ih m' hlt a₁ w₁).2.2 hJ';exact ⟨e₂,a₂,w₂,hq₂,.of_steps (harr _ hg2) harr₂⟩
     | ret=>exact ⟨_,a₁,w₁,hq,harr⟩
     | panic ch=>exact ⟨_,a₁,w₁,hq,harr⟩
     | outgrown=>exact ⟨_,a₁,w₁,hq,harr⟩
    exact ⟨fun hJ=>one _ (pass0 m a w hJ),fun hJ=>one _ (pass1 m a w hJ),fun hJ=>one _ (pass2 m a w hJ)⟩
 obtain ⟨e,a₁,w₁,hq,harr⟩:=first b (.inScope c :: k) cs;cases e with
 | normal=>exact ⟨.normal,a₁,w₁,hq,.head step_scope (Steps.trans harr (.one step_inScope))⟩
 | exit id=>exact ⟨.exit id,a₁,w₁,hq,fun k' hk=> .head step_scope (harr k' (by simp [exitTo,hk]))⟩
 | goto l'=>
   rcases hq with ⟨rfl,m,hJ'⟩ | ⟨rfl,m,hJ'⟩ | ⟨rfl,m,hJ'⟩
   · obtain ⟨e₂,a₂,w₂,hq₂,harr₂⟩:=(key m a₁ w₁).1 hJ';exact ⟨e₂,a₂,w₂,hq₂,.of_steps (.head step_scope (harr _ hg0)) harr₂⟩
   · obtain ⟨e₂,a₂,w₂,hq₂,harr₂⟩:=(key m a₁ w₁).2.1 hJ';exact ⟨e₂,a₂,w₂,hq₂,.of_steps (.head step_scope (harr _ hg1)) harr₂⟩
   · obtain ⟨e₂,a₂,w₂,hq₂,harr₂⟩:=(key m a₁ w₁).2.2 hJ';exact ⟨e₂,a₂,w₂,hq₂,.of_steps (.head step_scope (harr _ hg2)) harr₂⟩
 | ret=>exact ⟨_,a₁,w₁,hq,.of_steps (.one step_scope) harr⟩
 | panic ch=>exact ⟨_,a₁,w₁,hq,.of_steps (.one step_scope) harr⟩
 | outgrown=>exact ⟨_,a₁,w₁,hq,.of_steps (.one step_scope) harr⟩
theorem jump3_mono {l0 l1 l2:Nat} {J0 J1 J2 J0' J1' J2':Act→World→Prop} (h0:∀a w,J0 a w→J0' a w) (h1:∀a w,J1 a w→J1' a w) (h2:∀a w,J2 a w→J2' a w):∀ (e:Exit) (a:Act) (w:World),jump3 l0 l1 l2 J0 J1 J2 Q e a w→jump3 l0 l1 l2 J0' J1' J2' Q e a w:=by
 intro e a w hq;cases e with
 | goto l'=>
   rcases hq with ⟨h,hj⟩ | ⟨h,hj⟩ | ⟨h,hj⟩
   · exact .inl ⟨h,h0 _ _ hj⟩
   · exact .inr (.inl ⟨h,h1 _ _ hj⟩)
   · exact .inr (.inr ⟨h,h2 _ _ hj⟩)
 | normal=>exact hq
 | exit _=>exact hq
 | ret=>exact hq
 | panic _=>exact hq
 | outgrown=>exact hq
theorem wp_scope_chain3 {c r0 r1 r2:Code} (l0 l1 l2:Nat) (J0 J1 J2:Nat→Act→World→Prop) (hf0:findLabel c l0=some (Code.skip.seq r0)) (hf1:findLabel c l1=some (Code.skip.seq r1)) (hf2:findLabel c l2=some (Code.skip.seq r2))
 (pass1:∀m a w,J1 m a w→r1.wp P (jump3 l0 l1 l2 (fun a' w'=>∃m',m' < m∧J0 m' a' w') (fun a' w'=>∃m',m' < m∧J1 m' a' w') (fun a' w'=>∃m',m' < m∧J2 m' a' w') Q) a w)
 (pass2:∀m a w,J2 m a w→r2.wp P (jump3 l0 l1 l2 (fun a' w'=>∃m',m' < m∧J0 m' a' w') (fun a' w'=>∃m',m' < m∧J1 m' a' w') (fun a' w'=>∃m',m' < m∧J2 m' a' w') Q) a w)
 (pass0: (∀m m2 a w,m≤m2→J2 m a w→r2.wp P (jump3 l0 l1 l2 (fun a' w'=>∃m',m' < m2∧J0 m' a' w') (fun a' w'=>∃m',m' < m2∧J1 m' a' w') (fun a' w'=>∃m',m' < m2∧J2 m' a' w') Q) a w)→
   ∀m a w,J0 m a w→r0.wp P (jump3 l0 l1 l2 (fun a' w'=>∃m',m' < m∧J0 m' a' w') (fun a' w'=>∃m',m' < m∧J1 m' a' w') (fun a' w'=>∃m',m' < m∧J2 m' a' w') Q) a w)
 (first: (∀m a w,J0 m a w→r0.wp P (jump3 l0 l1 l2 (fun a w=>∃m,J0 m a w) (fun a w=>∃m,J1 m a w) (fun a w=>∃m,J2 m a w) Q) a w)→
   c.wp P (jump3 l0 l1 l2 (fun a w=>∃m,J0 m a w) (fun a w=>∃m,J1 m a w) (fun a w=>∃m,J2 m a w) Q) a w): (Code.scope c).wp P Q a w:=by
 have h0:=pass0 (fun m m2 a w hle hJ=>Code.wp_mono (jump3_mono (fun _ _ ⟨m',h,j⟩=>⟨m',by omega,j⟩) (fun _ _ ⟨m',h,j⟩=>⟨m',by omega,j⟩) (fun _ _ ⟨m',h,j⟩=>⟨m',by omega,j⟩)) (pass2 m a w hJ));exact wp_scope_ghost3 l0 l1 l2 J0 J1 J2 hf0 hf1 hf2 (first fun m a w hJ=>Code.wp_mono (jump3_mono (fun _ _ ⟨m',h,j⟩=>⟨m',j⟩) (fun _ _ ⟨m',h,j⟩=>⟨m',j⟩) (fun _ _ ⟨m',h,j⟩=>⟨m',j⟩)) (h0 m a w hJ)) (fun m a w hJ=>wp_seq (wp_skip (h0 m a w hJ))) (fun m a w hJ=>wp_seq (wp_skip (pass1 m a w hJ))) (fun m a w hJ=>wp_seq (wp_skip (pass2 m a w hJ)))
end
end Go.Proofs.YtnoibjahliafpaaGreatDoor
namespace Go.Proofs.YtnoibjahliafpaaGreatDoor
open Go.ChangeShapes Go.WideShapes Go.ChangeAt Go.RowKit
def piece (s:List UInt8) (fr i:Nat):List UInt8:=(s.drop fr).take (i - fr)
theorem extract_piece (s:List UInt8) (fr i:Nat): (⟨s.toArray⟩:ByteArray).extract fr i= ⟨(piece s fr i).toArray⟩:=by
 apply ByteArray.ext;simp [piece,ByteArray.extract,ByteArray.copySlice,List.extract_eq_take_drop]
theorem slice_piece (s:List UInt8) (fr i:Nat) (h1:fr≤i) (h2:i≤s.length) (W:World): (Instr.slice 9 (.string ⟨s.toArray⟩) (some (.int .i64 (fr:Int))) (some (.int .i64 (i:Int))) none).run Tryz.prog W= .ok (.string ⟨(piece s fr i).toArray⟩) W:=by
 have hsz: (⟨s.toArray⟩:ByteArray).size=s.length:=by simp [ByteArray.size]
 have:=run_slice_string (P:=Tryz.prog) (w:=W) 9 ⟨s.toArray⟩ .i64 .i64 (fr:Int) (i:Int) Tryz.underlying9 (by omega) (by omega) (by omega);rw [Int.toNat_natCast,Int.toNat_natCast,extract_piece] at this;exact this
theorem bt_at2 (t:List UInt8) (k:Nat) (h:k < t.length): (⟨t.toArray⟩:ByteArray)[k]'(by simpa [ByteArray.size] using h)=t[k]:=rfl
theorem b_ne44 {b:UInt8} (h:b≠44): ((b.toNat:Int) != 44)=true:=by
 rw [bne_iff_ne];intro e
 exact h (UInt8.toNat_inj.1 (by have :b.toNat=44:=by omega
                                rw [this];rfl))
theorem piece_next {s:List UInt8} {fr i:Nat} (hf:fr≤i) (hi:i < s.length):piece s fr (i+1)=piece s fr i ++ [s[i]]:=by
 unfold piece;rw [show i+1 - fr= (i - fr)+1 by omega,List.take_succ_eq_append_getElem (by simp;omega)];congr 2;simp;congr 1;omega
theorem piece_none (s:List UInt8) (i:Nat):piece s i i= []:=by unfold piece;simp
theorem piece_empty {s:List UInt8} {fr i:Nat} (hf:fr≤i) (hi:i≤s.length): (piece s fr i).isEmpty=decide (fr=i):=by
 unfold piece;rw [Bool.eq_iff_iff];simp;omega
def nmF (b:List UInt8) (lv:Value) (at_:Int) (fv:Value) (X:Nat→Value):Act:={ tmps:=#[.string ⟨b.toArray⟩,undef,.slice none 0 0,.bool false,lv,.int .i64 at_,fv,X 7,X 8,X 9,X 10,X 11,X 12,X 13,X 14,X 15,X 16,X 17,X 18,X 19,X 20,X 21,X 22,X 23,X 24,X 25,X 26,X 27,X 28,X 29,X 30,X 31,X 32,X 33,X 34,X 35,X 36,X 37,X 38,X 39],defers:=[] }
theorem nmF_of {b:List UInt8} {lv:Value} {at_:Int} {fv:Value} (t:Array Value) (h:t= (nmF b lv at_ fv (fun i=>t.getD i undef)).tmps):∃X,({ tmps:=t,defers:=[] }:Act)=nmF b lv at_ fv X:=
 ⟨fun i=>t.getD i undef,by rw [show nmF b lv at_ fv (fun i=>t.getD i undef)= { tmps:=(nmF b lv at_ fv (fun i=>t.getD i undef)).tmps,defers:=[] } from rfl,←h]⟩
def NJ0 (b:List UInt8) (R:Option (List Int × Bool)) (w:World) (m:Nat) (a':Act) (wr:World):Prop:=∃ (k:Nat) (l:List Int) (o:Option Addr) (c:Nat) (fv:Value),m=2* (b.length - k)+1∧k≤b.length∧l.length≤k∧Hid (R=readP [] (b.drop k) l)∧Hid (wr.ownsRow w.heap.size 2 1 (.slice o l.length c) l.length (intsV l))∧Hid (Below w.heap.size w wr)∧∃X,a'=nmF b (.slice o l.length c) k fv X
def NJ1 (b:List UInt8) (R:Option (List Int × Bool)) (w:World) (m:Nat) (a':Act) (wr:World):Prop:=∃ (k fr:Nat) (l:List Int) (o:Option Addr) (c:Nat),m=0∧k≤b.length∧fr≤k∧Hid (R=some (l,decide (fr=k)))∧Hid (wr.ownsRow w.heap.size 2 1 (.slice o l.length c) l.length (intsV l))∧Hid (Below w.heap.size w wr)∧∃X,a'=nmF b (.slice o l.length c) k (.int .i64 fr) X
def NJ2 (b:List UInt8) (R:Option (List Int × Bool)) (w:World) (m:Nat) (a':Act) (wr:World):Prop:=∃ (k fr:Nat) (l:List Int) (o:Option Addr) (c:Nat),m=2* (b.length - k)+1∧k≤b.length∧fr≤k∧l.length≤k∧Hid (R=readP (piece b fr k) (b.drop k) l)∧Hid (wr.ownsRow w.heap.size 2 1 (.slice o l.length c) l.length (intsV l))∧Hid (Below w.heap.size w wr)∧∃X,a'=nmF b (.slice o l.length c) k (.int .i64 fr) X
def NmP (R:Option (List Int × Bool)) (w:World) (e:Ending) (w':World):Prop:=
 (∃l f o c,R=some (l,f)∧e= .returned (.tuple #[.slice o l.length c,.bool f])∧w'.ownsRow w.heap.size 2 1 (.slice o l.length c) l.length (intsV l)∧Below w.heap.size w w')∨
 (R=none∧e= .returned (.tuple #[.slice none 0 0,.bool false])∧Below w.heap.size w w')
set_option maxRecDepth 100000 in
set_option maxHeartbeats 2000000 in
theorem numbersC (b:List UInt8) (w:World) (hb:b.length≤4294967281) (ht:TabW w):
 Calls Tryz.prog 48 #[.string ⟨b.toArray⟩] w (NmP (readP [] b []) w):=by
 obtain ⟨R,hR⟩:∃R,readP [] b []=R:=⟨_,rfl⟩;have HR:=Lib.hid hR;have HT:=Lib.hid ht;rw [hR];clear hR ht;go_enter Tryz.func48,Tryz.ntmps48;go_wp2_with fail;refine wp_scope_chain3 0 1 2 (NJ0 b R w) (NJ1 b R w) (NJ2 b R w) rfl rfl rfl ?_ ?_ ?_ ?_
 · intro m a' wr hj;obtain ⟨k,fr,l,o,c,rfl,hk,hfk,HRR,HO,HB,X,rfl⟩:=hj;simp only [nmF];have hd: ((fr:Int) == (k:Int))=decide (fr=k):=by
    rw [Bool.eq_iff_iff];simp;omega
   obtain ⟨d,hdd⟩:∃d,decide (fr=k)=d:=⟨_,rfl⟩;have HZ:Hid (NmP R w (.returned (.tuple #[.slice o l.length c,.bool d])) wr):=Lib.hid (.inl ⟨l,d,o,c,by rw [←hdd];exact HRR.out,rfl,HO.out,HB.out⟩);rw [hdd] at hd;clear hdd;go_wp2_with fail;simp only [jump3];go_ret2;exact HZ.out
 · intro m a' wr hj;obtain ⟨k,fr,l,o,c,rfl,hk,hfk,hl,HRR,HO,HB,X,rfl⟩:=hj;have hk0: (0:Int)≤k:=by omega
   by_cases hke:k=b.length
   · have he: ((k:Int) == (b.length:Int))=true:=by rw [beq_iff_eq];omega
     have HZ:Hid (R=some (l,decide (fr=k))):=Lib.hid (by
      rw [HRR.out,hke,List.drop_length,readP,piece_empty (by omega) (Nat.le_refl _)])
     simp only [nmF];clear hke;go_wp2_with fail;go_step3;exact .inr (.inl ⟨rfl,0,by omega,k,fr,l,o,c,rfl,hk,hfk,HZ,HO,HB,nmF_of _ rfl⟩)
   · have hkl:k < b.length:=by omega
     have hkli: (k:Int) < b.length:=by omega
     have he: ((k:Int) == (b.length:Int))=false:=by rw [beq_eq_false_iff_ne];omega
     have hb0:=bt_at2 b k hkl;obtain ⟨x,hx⟩:∃x,b[k]=x:=⟨_,rfl⟩;rw [hx] at hb0;have HX:=Lib.hid hx;have hdr:b.drop k=x :: b.drop (k+1):=by rw [←hx];exact List.drop_eq_getElem_cons hkl
     clear hx hke;by_cases hc:x=44
     · have hc2: ((x.toNat:Int) != 44)=false:=by rw [hc];rfl
       have HRD:Hid ((∀v,Lib.parseIntB 64 (piece b fr k)= .ok v→R=readP [] (b.drop (k+1)) (l ++ [v]))∧ ((∀v,Lib.parseIntB 64 (piece b fr k)≠ .ok v)→R=none)):=Lib.hid (by
        rw [HRR.out,hdr,readP,if_pos hc];refine ⟨fun v hv=>by rw [hv],fun hn=> ?_⟩;split
        · rename_i v hv
          exact absurd hv (hn v)
        · rfl)
       have hsl:=slice_piece b fr k hfk hk;have HPI:=Lib.hid (parseInt_any (piece b fr k) wr (by unfold piece;simp;omega) (HT.out _ HB.out));have hfi: (fr:Int)≤k:=by omega
       have hf0: (0:Int)≤fr:=by omega
       simp only [nmF];clear hdr hc;go_wp2_with fail;refine HPI.out.mono ?_;rintro e W2 ⟨v,ev,rfl,hcase,hb2⟩;have HB2:Hid (Below w.heap.size w W2):=Lib.hid (HB.out.trans (hb2.mono HB.out.size));have HO2:=Lib.hid ((owns_below HO.out hb2).alloc (.cells #[.int .i64 v] 2));have HLE:Hid (w.heap.size≤ (W2.alloc (.cells #[.int .i64 v] 2)).heap.size):=Lib.hid (by have:=HB2.out.size;simp;omega);obtain ⟨ii,hi1,hi2,hi3,hi4⟩:=info_parts info_ints;have HI:=Lib.hid (And.intro hi1 (And.intro hi2 (And.intro hi3 hi4)));clear hb2 HPI hi1 hi2 hi3 hi4;rcases hcase with ⟨rfl,hv⟩ | ⟨⟨tt,pp,rfl⟩,hn⟩
       · have HRV:=Lib.hid (HRD.out.1 v hv);clear hv;go_wp2_with (at_builtin;refine wpList_append_keep rfl _ _ 23 rfl w.heap.size 2 ii (.int .i64 0) 1 8 Tryz.underlying23 HI.out.1 HI.out.2.1 HI.out.2.2.1 HI.out.2.2.2 rfl (by decide) (.slice o l.length c) l.length (intsV l) rfl HO2.out ⟨W2.heap.size,0,none⟩ 1 1 [.int .i64 v] rfl rfl (arr_one _ _ _) (by simp [Value.oneCell']) (by unfold maxLen;omega) (by omega) HLE.out ?_);intro o3 c3 W3 ho3 hg3 hn3;have HO3:Hid (W3.ownsRow w.heap.size 2 1 (.slice o3 (l ++ [v]).length c3) (l ++ [v]).length (intsV (l ++ [v]))):=Lib.hid (by
          rw [List.length_append,List.length_singleton];simp only [intsV,List.map_append,List.map_cons,List.map_nil] at ho3 ⊢;exact ho3)
         have HB3:Hid (Below w.heap.size w W3):=Lib.hid ((HB2.out.trans ((ball _).mono HB2.out.size)).grown hg3 HLE.out (fun q hq=>(HO2.out.lt q hq).1));have hll:l.length+1= (l ++ [v]).length:=by simp
         rw [hll];have hlv: (l ++ [v]).length≤k+1:=by simp;omega
         clear ho3 hg3 hn3 hll;go_wp2_with fail;go_step3;exact .inl ⟨rfl,2* (b.length - (k+1))+1,by omega,k+1,l ++ [v],o3,c3,_,rfl,by omega,hlv,HRV,HO3,HB3,nmF_of _ rfl⟩
       · have HRV:=Lib.hid (HRD.out.2 hn);clear hn;go_wp2_with fail;simp only [jump3];go_ret2;exact .inr ⟨HRV.out,rfl,HB2.out⟩
     · have hc2:=b_ne44 hc;have HRD:Hid (R=readP (piece b fr (k+1)) (b.drop (k+1)) l):=Lib.hid (by
        rw [HRR.out,hdr,readP,if_neg hc,piece_next hfk hkl,HX.out])
       simp only [nmF];clear hdr hc;go_wp2_with fail;go_step3;exact .inr (.inr ⟨rfl,2* (b.length - (k+1))+1,by omega,k+1,fr,l,o,c,rfl,by omega,by omega,by omega,HRD,HO,HB,nmF_of _ rfl⟩)
 · intro HD m a' wr hj;obtain ⟨k,l,o,c,fv,rfl,hk,hl,HRR,HO,HB,X,rfl⟩:=hj;simp only [nmF];go_wp2_with fail;go_step3;refine (by assumption:∀ (a:Act) (w:World),Code.wp Tryz.prog _ _ a w→ (_:Act→World→Prop) a w) _ _ ?_;refine HD _ _ _ _ (Nat.le_refl _) ?_;exact ⟨k,k,l,o,c,rfl,hk,Nat.le_refl _,hl,by rw [piece_none];exact HRR,HO,HB,nmF_of _ rfl⟩
 · intro HN;go_wp2_with fail;go_step3;refine (by assumption:∀ (a:Act) (w:World),Code.wp Tryz.prog _ _ a w→ (_:Act→World→Prop) a w) _ _ ?_;refine HN (2* (b.length - 0)+1) _ _ ?_;exact ⟨0,[],none,0,.int .i64 0,rfl,by omega,by simp,Lib.hid (by rw [List.drop_zero];exact HR.out.symm),Lib.hid (World.ownsRow_nil _ _ _ _),Lib.hid (Below.refl _ _),nmF_of _ rfl⟩
end Go.Proofs.YtnoibjahliafpaaGreatDoor
namespace Go.Proofs.YtnoibjahliafpaaGreatDoor
open Go.ChangeShapes Go.WideShapes Go.ChangeAt Go.RowKit
def zeroS:StateD:=⟨[],[],[],0,0,0⟩
def zeroH:SH:=⟨none,0,none,0,none,0⟩
def decE (m:ModelD) (b:List UInt8):Int:=if goodB m=true then (match decP m b with | some _=>0 | none=>41) else 40
def decS (m:ModelD) (b:List UInt8):StateD:=if goodB m=true then (match decP m b with | some s=>s | none=>zeroS) else zeroS
def DecR (m:ModelD) (b:List UInt8) (w:World) (e:Ending) (w':World):Prop:=
 ∃hs,e= .returned (.tuple #[sV hs (decS m b),.int .i64 (decE m b)])∧SD w'.heap.size w' hs (decS m b)∧Below w.heap.size w w'
theorem zero_sd (B:Nat) (w:World):SD B w zeroH zeroS:=⟨Row.nil _ _ _ _,Row.nil _ _ _ _,Row.nil _ _ _ _⟩
theorem owns_cap {w:World} {B size n:Nat} {e:TypeId} {o:Option Addr} {c:Nat} {xs:List Value} (h:w.ownsRow B e size (.slice o n c) n xs):n≤c:=by
 rcases h.2 with ⟨h1,h2⟩ | ⟨g,cap,cur,h1,h2,h3,h4,h5⟩
 · injection h1 with _ e1 e2
   omega
 · injection h1 with _ e1 e2
   omega
set_option maxRecDepth 100000 in
set_option maxHeartbeats 4000000 in
theorem decodeC {h:MH} {m:ModelD} (b:List UInt8) (w:World) (hmd:MD w.heap.size w h m) (hb:b.length≤4294967281) (ht:TabW w):
 Calls Tryz.prog 23 #[mV h m,.string ⟨b.toArray⟩] w (DecR m b w):=by
 obtain ⟨CM,hCM⟩:∃c,c=mCells h m:=⟨_,rfl⟩;have HMX:=Lib.hid ((Mx.new hmd hCM).below (ball (.cells #[.slice none 0 0,.slice none 0 0,.slice none 0 0,.int .i64 0,.int .i64 0,.int .i64 0] 34)));have HO1:Hid (((w.alloc (.cells CM 29)).alloc (.cells #[.slice none 0 0,.slice none 0 0,.slice none 0 0,.int .i64 0,.int .i64 0,.int .i64 0] 34)).heap[w.heap.size+1]? =some (.cells #[.slice none 0 0,.slice none 0 0,.slice none 0 0,.int .i64 0,.int .i64 0,.int .i64 0] 34 (0,0))):=Lib.hid (new_at (by simp));have HT:=Lib.hid ht;have HCM:=Lib.hid hCM;have HIG:Hid (∀W,Mx w w.heap.size CM h m W→Calls Tryz.prog 26 #[.agg CM] W fun e w'=>e= .returned (.bool (goodB m))∧Below W.heap.size W w'):=Lib.hid fun W h1=>by
  rw [h1.eq];exact isGoodC W h1.bx.bel.size h1.md
 have HZ0:Hid (∀ (W:World) (x0 x1 x2:Value),Below w.heap.size w W→Below w.heap.size w ((((((W.setCell ⟨w.heap.size+1,0,none⟩ x0).setCell ⟨w.heap.size+1,1,none⟩ x1).setCell ⟨w.heap.size+1,2,none⟩ x2).setCell ⟨w.heap.size+1,3,none⟩ (.int .i64 0)).setCell ⟨w.heap.size+1,4,none⟩ (.int .i64 0)).setCell ⟨w.heap.size+1,5,none⟩ (.int .i64 0))):=Lib.hid fun W x0 x1 x2 hb=>
  (((((hb.setCell (by simp) _).setCell (by simp) _).setCell (by simp) _).setCell (by simp) _).setCell (by simp) _).setCell (by simp) _
 unfold mV;rw [←hCM];clear hCM hmd ht;go_enter Tryz.func23,Tryz.ntmps23;go_upto_region 1 with fail
 generalize (w.alloc (.cells CM 29)).alloc (.cells #[.slice none 0 0,.slice none 0 0,.slice none 0 0,.int .i64 0,.int .i64 0,.int .i64 0] 34)=W1 at HMX HO1 ⊢;go_wp2_with (refine wpList_load_row rfl _ _ rfl _ rfl _ CM _ _ HMX.out.bx.box Tryz.underlying29 rfl HMX.out.info ?_);refine (HIG.out W1 HMX.out).mono ?_;rintro e W2 ⟨rfl,hb2⟩;have HM2:=Lib.hid (HMX.out.below hb2);have HO2:=Lib.hid ((hb2.block _ (lt_of_block HO1.out)).trans HO1.out);clear hb2 HMX HO1 HIG;obtain ⟨gd,hgd⟩:∃g,goodB m=g:=⟨_,rfl⟩;have HGD:=Lib.hid hgd;rw [hgd];clear hgd;cases gd
 · have HE:Hid (decS m b=zeroS∧decE m b=40):=Lib.hid (by unfold decS decE;rw [HGD.out];exact ⟨rfl,rfl⟩);have q0:W2.cell? ⟨w.heap.size+1,0,none⟩=some (.slice none 0 0):=(cell_of_row _ _ 0 _ _ _ HO2.out).trans rfl;have q1:W2.cell? ⟨w.heap.size+1,1,none⟩=some (.slice none 0 0):=(cell_of_row _ _ 1 _ _ _ HO2.out).trans rfl;have q2:W2.cell? ⟨w.heap.size+1,2,none⟩=some (.slice none 0 0):=(cell_of_row _ _ 2 _ _ _ HO2.out).trans rfl;have q3:W2.cell? ⟨w.heap.size+1,3,none⟩=some (.int .i64 0):=(cell_of_row _ _ 3 _ _ _ HO2.out).trans rfl;have q4:W2.cell? ⟨w.heap.size+1,4,none⟩=some (.int .i64 0):=(cell_of_row _ _ 4 _ _ _ HO2.out).trans rfl;have q5:W2.cell? ⟨w.heap.size+1,5,none⟩=some (.int .i64 0):=(cell_of_row _ _ 5 _ _ _ HO2.out).trans rfl;have t0:=frozen_of_row _ _ 0 _ _ HO2.out;have t1:=frozen_of_row _ _ 1 _ _ HO2.out;have t2:=frozen_of_row _ _ 2 _ _ HO2.out;have t3:=frozen_of_row _ _ 3 _ _ HO2.out;have t4:=frozen_of_row _ _ 4 _ _ HO2.out;have t5:=frozen_of_row _ _ 5 _ _ HO2.out;go_wp2_with fail;refine bodyPost_ret (v:= .tuple #[.agg #[.slice none 0 0,.slice none 0 0,.slice none 0 0,.int .i64 0,.int .i64 0,.int .i64 0],.int .i64 40]) (by simp [results,Tryz.results23,go_sem,q0,q1,q2,q3,q4,q5,t0,t1,t2,t3,t4,t5]) rfl ?_;unfold DecR;rw [HE.out.1,HE.out.2];exact ⟨zeroH,rfl,zero_sd _ _,HZ0.out _ _ _ _ HM2.out.bx.bel⟩
 have HNM:=Lib.hid (numbersC b W2 hb (HT.out.below HM2.out.bx.bel));obtain ⟨R,hR⟩:∃R,readP [] b []=R:=⟨_,rfl⟩;have HR:=Lib.hid hR;rw [hR] at HNM;clear hR;go_wp2_with fail;refine HNM.out.mono ?_;rintro e W3 hnm;have HB3:Hid (Below W2.heap.size W2 W3):=Lib.hid (by rcases hnm with ⟨l,f,o,c,h1,h2,h3,h4⟩ | ⟨h1,h2,h3⟩ <;> assumption);have HM3:=Lib.hid (HM2.out.below HB3.out);have HO3:=Lib.hid ((HB3.out.block _ (lt_of_block HO2.out)).trans HO2.out);clear HNM HM2 HO2;have HBAD:Hid (∀ (W:World) (x0 x1 x2:Value),Below w.heap.size w W→decP m b=none→DecR m b w (.returned (.tuple #[.agg #[.slice none 0 0,.slice none 0 0,.slice none 0 0,.int .i64 0,.int .i64 0,.int .i64 0],.int .i64 41])) ((((((W.setCell ⟨w.heap.size+1,0,none⟩ x0).setCell ⟨w.heap.size+1,1,none⟩ x1).setCell ⟨w.heap.size+1,2,none⟩ x2).setCell ⟨w.heap.size+1,3,none⟩ (.int .i64 0)).setCell ⟨w.heap.size+1,4,none⟩ (.int .i64 0)).setCell ⟨w.heap.size+1,5,none⟩ (.int .i64 0))):=Lib.hid (by
  intro W x0 x1 x2 hb hd;have e1:decS m b=zeroS:=by unfold decS;rw [HGD.out,if_pos rfl,hd]
  have e2:decE m b=41:=by unfold decE;rw [HGD.out,if_pos rfl,hd]
  unfold DecR;rw [e1,e2];exact ⟨zeroH,rfl,zero_sd _ _,HZ0.out _ _ _ _ hb⟩)
 rcases hnm with ⟨l,f,o,c,rfl,rfl,h3,h4⟩ | ⟨rfl,rfl,h3⟩
 rotate_left
 · have HD:Hid (decP m b=none):=Lib.hid (by unfold decP;rw [HR.out]);clear h3;have q0:W3.cell? ⟨w.heap.size+1,0,none⟩=some (.slice none 0 0):=(cell_of_row _ _ 0 _ _ _ HO3.out).trans rfl;have q1:W3.cell? ⟨w.heap.size+1,1,none⟩=some (.slice none 0 0):=(cell_of_row _ _ 1 _ _ _ HO3.out).trans rfl;have q2:W3.cell? ⟨w.heap.size+1,2,none⟩=some (.slice none 0 0):=(cell_of_row _ _ 2 _ _ _ HO3.out).trans rfl;have q3:W3.cell? ⟨w.heap.size+1,3,none⟩=some (.int .i64 0):=(cell_of_row _ _ 3 _ _ _ HO3.out).trans rfl;have q4:W3.cell? ⟨w.heap.size+1,4,none⟩=some (.int .i64 0):=(cell_of_row _ _ 4 _ _ _ HO3.out).trans rfl;have q5:W3.cell? ⟨w.heap.size+1,5,none⟩=some (.int .i64 0):=(cell_of_row _ _ 5 _ _ _ HO3.out).trans rfl;have t0:=frozen_of_row _ _ 0 _ _ HO3.out;have t1:=frozen_of_row _ _ 1 _ _ HO3.out;have t2:=frozen_of_row _ _ 2 _ _ HO3.out;have t3:=frozen_of_row _ _ 3 _ _ HO3.out;have t4:=frozen_of_row _ _ 4 _ _ HO3.out;have t5:=frozen_of_row _ _ 5 _ _ HO3.out;go_wp2_with fail;refine bodyPost_ret (v:= .tuple #[.agg #[.slice none 0 0,.slice none 0 0,.slice none 0 0,.int .i64 0,.int .i64 0,.int .i64 0],.int .i64 41]) (by simp [results,Tryz.results23,go_sem,q0,q1,q2,q3,q4,q5,t0,t1,t2,t3,t4,t5]) rfl ?_;exact HBAD.out _ _ _ _ HM3.out.bx.bel HD.out
 cases f
 · have HD:Hid (decP m b=none):=Lib.hid (by unfold decP;rw [HR.out]);clear h3 h4;have q0:W3.cell? ⟨w.heap.size+1,0,none⟩=some (.slice none 0 0):=(cell_of_row _ _ 0 _ _ _ HO3.out).trans rfl;have q1:W3.cell? ⟨w.heap.size+1,1,none⟩=some (.slice none 0 0):=(cell_of_row _ _ 1 _ _ _ HO3.out).trans rfl;have q2:W3.cell? ⟨w.heap.size+1,2,none⟩=some (.slice none 0 0):=(cell_of_row _ _ 2 _ _ _ HO3.out).trans rfl;have q3:W3.cell? ⟨w.heap.size+1,3,none⟩=some (.int .i64 0):=(cell_of_row _ _ 3 _ _ _ HO3.out).trans rfl;have q4:W3.cell? ⟨w.heap.size+1,4,none⟩=some (.int .i64 0):=(cell_of_row _ _ 4 _ _ _ HO3.out).trans rfl;have q5:W3.cell? ⟨w.heap.size+1,5,none⟩=some (.int .i64 0):=(cell_of_row _ _ 5 _ _ _ HO3.out).trans rfl;have t0:=frozen_of_row _ _ 0 _ _ HO3.out;have t1:=frozen_of_row _ _ 1 _ _ HO3.out;have t2:=frozen_of_row _ _ 2 _ _ HO3.out;have t3:=frozen_of_row _ _ 3 _ _ HO3.out;have t4:=frozen_of_row _ _ 4 _ _ HO3.out;have t5:=frozen_of_row _ _ 5 _ _ HO3.out;go_wp2_with fail;refine bodyPost_ret (v:= .tuple #[.agg #[.slice none 0 0,.slice none 0 0,.slice none 0 0,.int .i64 0,.int .i64 0,.int .i64 0],.int .i64 41]) (by simp [results,Tryz.results23,go_sem,q0,q1,q2,q3,q4,q5,t0,t1,t2,t3,t4,t5]) rfl ?_;exact HBAD.out _ _ _ _ HM3.out.bx.bel HD.out
 have HOL:=Lib.hid h3;clear h3 h4;have HLB:Hid (l.length≤140737488355328):=Lib.hid (by have:=readP_len _ _ _ _ _ HR.out;simp at this;omega);have HXN:Hid (∀W,W3.heap.size=W.heap.size→Below W3.heap.size W3 W→RX W3.heap.size w.heap.size W3.heap.size ⟨l,false⟩ (W.alloc (.cells #[.pointer (some ⟨w.heap.size,0,none⟩),.slice o l.length c,.bool false] 94))∧RM W3.heap.size w.heap.size W3.heap.size h m (W.alloc (.cells #[.pointer (some ⟨w.heap.size,0,none⟩),.slice o l.length c,.bool false] 94))):=Lib.hid fun W hs hb=>by
  have hb2:Below W3.heap.size W3 (W.alloc (.cells #[.pointer (some ⟨w.heap.size,0,none⟩),.slice o l.length c,.bool false] 94)):=hb.alloc hb.size _;have hm:=HM3.out.below hb2;refine ⟨⟨⟨o,c,by rw [hs];exact heap_alloc_new _ _,(ints_row HOL.out rfl HLB.out).mono fun _ _ _ hg=>intAt.below hb2 hg,owns_cap HOL.out⟩,Nat.le_refl _⟩,⟨?_,hm.md.lift (by have:=HM3.out.bx.bel.size;omega), ?_,Nat.le_refl _⟩⟩
  · have:=hm.bx.box;rw [hm.eq] at this;exact this
  · have:=lt_of_block HM3.out.bx.box;omega
 have HX4:=Lib.hid (HXN.out W3 rfl (Below.refl _ _)).1;have HM4:=Lib.hid (HXN.out W3 rfl (Below.refl _ _)).2;have HB4:Hid (Below W3.heap.size W3 (W3.alloc (.cells #[.pointer (some ⟨w.heap.size,0,none⟩),.slice o l.length c,.bool false] 94))):=Lib.hid (ball _);obtain ⟨rb,hrb⟩:∃k,W3.heap.size=k:=⟨_,rfl⟩;have HRB:=Lib.hid hrb;clear HXN HLB;go_upto_region 7 with fail
 try rw [hrb]
 rw [hrb] at HX4 HM4;generalize W3.alloc (.cells #[.pointer (some ⟨w.heap.size,0,none⟩),.slice o l.length c,.bool false] 94)=W4 at HX4 HM4 HB4 ⊢;clear hrb;have HST:=Lib.hid (stateC W4 HX4.out HM4.out (good_more HGD.out).1 (good_more HGD.out).2.2.2.1 (fun s hs=>by
  have:=(good_gf HGD.out).shapes s hs;unfold shapeB at this;simp only [Bool.and_eq_true,Bool.not_eq_true',decide_eq_false_iff_not] at this;omega) (fun p hp=>by
  obtain ⟨t,ht⟩:=List.mem_iff_getElem?.1 hp;exact (good_at HGD.out ht).2))
 obtain ⟨sx,hsx⟩:∃x,(stF m ⟨l,false⟩).1=x:=⟨_,rfl⟩;obtain ⟨r9,hr9⟩:∃x,(stF m ⟨l,false⟩).2=x:=⟨_,rfl⟩;have HSF:Hid (stF m ⟨l,false⟩= (sx,r9)):=Lib.hid (by rw [←hsx,←hr9]);rw [HSF.out] at HST;clear hsx hr9;go_wp2_with fail;refine HST.out.mono ?_;rintro e W5 ⟨hs,rfl,hsd5,hx5,hg5⟩;have HSD5:=Lib.hid hsd5;have HX5:=Lib.hid hx5;have HM5:=Lib.hid (HM4.out.gb HX4.out.lt hg5);have HLT:=Lib.hid HX4.out.lt;have HB5:Hid (Below rb W4 W5):=Lib.hid (gb_low hg5 (Nat.le_refl _) HLT.out);clear hsd5 hx5 hg5 HX4 HM4 HST;have HO4:=Lib.hid ((HB4.out.block _ (lt_of_block HO3.out)).trans HO3.out);have HO5:=Lib.hid ((HB5.out.block _ (by have:=lt_of_block HO3.out;have:=HRB.out;omega)).trans HO4.out);have HW5:Hid (Below w.heap.size w W5):=Lib.hid ((HM3.out.bx.bel.trans (HB4.out.mono HM3.out.bx.bel.size)).trans (HB5.out.mono (by have:=HM3.out.bx.bel.size;have:=HRB.out;omega)));obtain ⟨CX,hCX⟩:∃c,c=sCells hs sx:=⟨_,rfl⟩;have HN6:Hid (∀W,W.heap.size=W5.heap.size→Below W5.heap.size W5 W→∀W',Below (W5.heap.size+1) (W.alloc (.cells CX 34)) W'→Ck W5.heap.size W' w.heap.size h m∧Sk W5.heap.size W' W5.heap.size 0 hs sx∧RX rb w.heap.size rb r9 W'∧W'.heap[W5.heap.size]? =some (.cells CX 34 (0,0))∧W'.heap[w.heap.size+1]? =some (.cells #[.slice none 0 0,.slice none 0 0,.slice none 0 0,.int .i64 0,.int .i64 0,.int .i64 0] 34 (0,0))∧Below w.heap.size w W'∧SRow W4.heap.size W' hs sx):=Lib.hid fun W hsz hb W' hb'=>by
  have h1:Below W5.heap.size W5 W':=(hb.alloc (by omega) _).trans (hb'.mono (by omega));have h2:W'.heap[W5.heap.size]? =some (.cells CX 34 (0,0)):=(hb'.block _ (by omega)).trans (by rw [←hsz];exact heap_alloc_new _ _);have hl:=HX5.out.lt;have hm:=HM5.out.below hl h1;have hms:=lt_of_block HM5.out.box;have hs2:=lt_of_block h2;rw [hCX] at h2;refine ⟨⟨hm.cell rfl,hm.cell rfl,hm.cell rfl,hm.cell rfl,hm.cell rfl,hm.cell rfl,hm.cell rfl,by omega,by omega,hm.md.lift (by omega)⟩,⟨(cell_of_row _ _ _ _ _ _ h2).trans rfl,(cell_of_row _ _ _ _ _ _ h2).trans rfl,(cell_of_row _ _ _ _ _ _ h2).trans rfl,(cell_of_row _ _ _ _ _ _ h2).trans rfl,(cell_of_row _ _ _ _ _ _ h2).trans rfl,(cell_of_row _ _ _ _ _ _ h2).trans rfl,by omega,by omega,HSD5.out.sd.below h1⟩,HX5.out.below h1,by rw [hCX];exact h2,(h1.block _ (lt_of_block HO5.out)).trans HO5.out,HW5.out.trans (h1.mono HW5.out.size),HSD5.out.below h1⟩
 have H6:=Lib.hid (HN6.out W5 rfl (Below.refl _ _));have HL6:Hid ((W5.alloc (.cells CX 34)).heap.size=W5.heap.size+1):=Lib.hid (by simp);have HCX:=Lib.hid hCX;obtain ⟨sb,hsb⟩:∃k,W5.heap.size=k:=⟨_,rfl⟩;have hCV:sV hs sx= .agg #[.slice hs.go sx.globals.length hs.gc,.slice hs.co sx.chans.length hs.cc,.slice hs.po sx.procs.length hs.pc,.int .i64 sx.last,.int .i64 sx.alone,.int .i64 sx.claim]:=rfl;rw [hCV];have HB9:Hid (w.heap.size+1 < W4.heap.size):=Lib.hid (by have:=lt_of_block HO4.out;omega);clear hCV HN6 HSD5 HM5 HX5 HO4 HB4 HB5 HLT HM3 HO3;go_upto_region 8 with fail
 rw [←show CX= #[.slice hs.go sx.globals.length hs.gc,.slice hs.co sx.chans.length hs.cc,.slice hs.po sx.procs.length hs.pc,.int .i64 sx.last,.int .i64 sx.alone,.int .i64 sx.claim] from hCX];clear hCX;generalize W5.alloc (.cells CX 34)=W6 at H6 HL6 ⊢;rw [hsb] at H6 HL6;clear hsb HW5 HO5;have HDN:Hid (okP m b (sx,r9)=false→decP m b=none):=Lib.hid fun h0=>by
  unfold decP;rw [HR.out];simp only;rw [HSF.out,h0];rfl
 have HOK:Hid (okP m b (sx,r9)= (!(r9.wrong || decide (0 < r9.left.length)) && mayB m sx && decide (textS sx=b))):=Lib.hid rfl;obtain ⟨-,-,hrx,-,ho6,hw6,-⟩:=H6.out W6 (Below.refl _ _);have HO6:=Lib.hid ho6;have HW6:=Lib.hid hw6;have x2:=hrx.c2.1;obtain ⟨lo,lc,hbx,-,-⟩:=hrx.blk;have x1:W6.cell? ⟨rb,1,none⟩=some (.slice lo r9.left.length lc):=(cell_of_row _ _ 1 _ _ _ hbx).trans rfl;clear hrx hbx ho6 hw6;obtain ⟨L,wr⟩:=r9;simp only at x1 x2 HOK;cases wr;rotate_left
 · have HD:Hid (decP m b=none):=Lib.hid (HDN.out (by rw [HOK.out];rfl));have q0:W6.cell? ⟨w.heap.size+1,0,none⟩=some (.slice none 0 0):=(cell_of_row _ _ 0 _ _ _ HO6.out).trans rfl;have q1:W6.cell? ⟨w.heap.size+1,1,none⟩=some (.slice none 0 0):=(cell_of_row _ _ 1 _ _ _ HO6.out).trans rfl;have q2:W6.cell? ⟨w.heap.size+1,2,none⟩=some (.slice none 0 0):=(cell_of_row _ _ 2 _ _ _ HO6.out).trans rfl;have q3:W6.cell? ⟨w.heap.size+1,3,none⟩=some (.int .i64 0):=(cell_of_row _ _ 3 _ _ _ HO6.out).trans rfl;have q4:W6.cell? ⟨w.heap.size+1,4,none⟩=some (.int .i64 0):=(cell_of_row _ _ 4 _ _ _ HO6.out).trans rfl;have q5:W6.cell? ⟨w.heap.size+1,5,none⟩=some (.int .i64 0):=(cell_of_row _ _ 5 _ _ _ HO6.out).trans rfl;have t0:=frozen_of_row _ _ 0 _ _ HO6.out;have t1:=frozen_of_row _ _ 1 _ _ HO6.out;have t2:=frozen_of_row _ _ 2 _ _ HO6.out;have t3:=frozen_of_row _ _ 3 _ _ HO6.out;have t4:=frozen_of_row _ _ 4 _ _ HO6.out;have t5:=frozen_of_row _ _ 5 _ _ HO6.out;go_wp2_with fail;refine bodyPost_ret (v:= .tuple #[.agg #[.slice none 0 0,.slice none 0 0,.slice none 0 0,.int .i64 0,.int .i64 0,.int .i64 0],.int .i64 41]) (by simp [results,Tryz.results23,go_sem,q0,q1,q2,q3,q4,q5,t0,t1,t2,t3,t4,t5]) rfl ?_;exact HBAD.out _ _ _ _ HW6.out HD.out
 by_cases hl0:L= [];rotate_left
 · have hl1:0 < L.length:=List.length_pos_iff.2 hl0;have HD:Hid (decP m b=none):=Lib.hid (HDN.out (by
    have h9:decide (0 < L.length)=true:=by
     have:=List.length_pos_iff.2 hl0;rw [decide_eq_true_eq];omega
    rw [HOK.out,h9];rfl))
   have q0:W6.cell? ⟨w.heap.size+1,0,none⟩=some (.slice none 0 0):=(cell_of_row _ _ 0 _ _ _ HO6.out).trans rfl;have q1:W6.cell? ⟨w.heap.size+1,1,none⟩=some (.slice none 0 0):=(cell_of_row _ _ 1 _ _ _ HO6.out).trans rfl;have q2:W6.cell? ⟨w.heap.size+1,2,none⟩=some (.slice none 0 0):=(cell_of_row _ _ 2 _ _ _ HO6.out).trans rfl;have q3:W6.cell? ⟨w.heap.size+1,3,none⟩=some (.int .i64 0):=(cell_of_row _ _ 3 _ _ _ HO6.out).trans rfl;have q4:W6.cell? ⟨w.heap.size+1,4,none⟩=some (.int .i64 0):=(cell_of_row _ _ 4 _ _ _ HO6.out).trans rfl;have q5:W6.cell? ⟨w.heap.size+1,5,none⟩=some (.int .i64 0):=(cell_of_row _ _ 5 _ _ _ HO6.out).trans rfl;have t0:=frozen_of_row _ _ 0 _ _ HO6.out;have t1:=frozen_of_row _ _ 1 _ _ HO6.out;have t2:=frozen_of_row _ _ 2 _ _ HO6.out;have t3:=frozen_of_row _ _ 3 _ _ HO6.out;have t4:=frozen_of_row _ _ 4 _ _ HO6.out;have t5:=frozen_of_row _ _ 5 _ _ HO6.out;go_wp2_with fail;refine bodyPost_ret (v:= .tuple #[.agg #[.slice none 0 0,.slice none 0 0,.slice none 0 0,.int .i64 0,.int .i64 0,.int .i64 0],.int .i64 41]) (by simp [results,Tryz.results23,go_sem,q0,q1,q2,q3,q4,q5,t0,t1,t2,t3,t4,t5]) rfl ?_;exact HBAD.out _ _ _ _ HW6.out HD.out
 subst hl0;have HMY:=Lib.hid (mayC W6 (H6.out W6 (Below.refl _ _)).1 (H6.out W6 (Below.refl _ _)).2.1 (good_head HGD.out).1);obtain ⟨my,hmy⟩:∃x,mayB m sx=x:=⟨_,rfl⟩;have HMB:=Lib.hid hmy;rw [hmy] at HMY;rw [HMB.out] at HOK;clear hmy;go_wp2_with fail;refine HMY.out.mono ?_;rintro e W7 ⟨rfl,hb7⟩;have H7:=Lib.hid (H6.out W7 (hb7.mono (by rw [HL6.out];exact Nat.le_refl _)));have HL7:Hid (sb+1≤W7.heap.size):=Lib.hid (by have:=hb7.size;rw [HL6.out] at this;exact this);clear hb7 HMY x1 x2 HO6 HW6;cases my
 · have HD:Hid (decP m b=none):=Lib.hid (HDN.out (by rw [HOK.out];rfl));have q0:W7.cell? ⟨w.heap.size+1,0,none⟩=some (.slice none 0 0):=(cell_of_row _ _ 0 _ _ _ H7.out.2.2.2.2.1).trans rfl;have q1:W7.cell? ⟨w.heap.size+1,1,none⟩=some (.slice none 0 0):=(cell_of_row _ _ 1 _ _ _ H7.out.2.2.2.2.1).trans rfl;have q2:W7.cell? ⟨w.heap.size+1,2,none⟩=some (.slice none 0 0):=(cell_of_row _ _ 2 _ _ _ H7.out.2.2.2.2.1).trans rfl;have q3:W7.cell? ⟨w.heap.size+1,3,none⟩=some (.int .i64 0):=(cell_of_row _ _ 3 _ _ _ H7.out.2.2.2.2.1).trans rfl;have q4:W7.cell? ⟨w.heap.size+1,4,none⟩=some (.int .i64 0):=(cell_of_row _ _ 4 _ _ _ H7.out.2.2.2.2.1).trans rfl;have q5:W7.cell? ⟨w.heap.size+1,5,none⟩=some (.int .i64 0):=(cell_of_row _ _ 5 _ _ _ H7.out.2.2.2.2.1).trans rfl;have t0:=frozen_of_row _ _ 0 _ _ H7.out.2.2.2.2.1;have t1:=frozen_of_row _ _ 1 _ _ H7.out.2.2.2.2.1;have t2:=frozen_of_row _ _ 2 _ _ H7.out.2.2.2.2.1;have t3:=frozen_of_row _ _ 3 _ _ H7.out.2.2.2.2.1;have t4:=frozen_of_row _ _ 4 _ _ H7.out.2.2.2.2.1;have t5:=frozen_of_row _ _ 5 _ _ H7.out.2.2.2.2.1;go_wp2_with fail;refine bodyPost_ret (v:= .tuple #[.agg #[.slice none 0 0,.slice none 0 0,.slice none 0 0,.int .i64 0,.int .i64 0,.int .i64 0],.int .i64 41]) (by simp [results,Tryz.results23,go_sem,q0,q1,q2,q3,q4,q5,t0,t1,t2,t3,t4,t5]) rfl ?_;exact HBAD.out _ _ _ _ H7.out.2.2.2.2.2.1 HD.out
 have HEC:Hid (∀W,Sk sb W sb 0 hs sx→TabW W→Calls Tryz.prog 46 #[.agg CX] W fun e w'=>e= .returned (.string ⟨(textS sx).toArray⟩)∧Below W.heap.size W w'):=Lib.hid fun W h1 h2=>by
  have v:=may_vl HGD.out HMB.out;have:=encodedC sx hs W h1.le h1.sd h2 ⟨v.ints,v.many⟩;unfold sV at this;rw [←HCX.out] at this;exact this
 have HE7:=Lib.hid (HEC.out W7 H7.out.2.1 (HT.out.below H7.out.2.2.2.2.2.1));rw [HCX.out] at HE7;unfold sCells at HE7;have y0:W7.cell? ⟨sb,0,none⟩=some (.slice hs.go sx.globals.length hs.gc):=H7.out.2.1.c0;have y1:W7.cell? ⟨sb,1,none⟩=some (.slice hs.co sx.chans.length hs.cc):=H7.out.2.1.c1;have y2:W7.cell? ⟨sb,2,none⟩=some (.slice hs.po sx.procs.length hs.pc):=H7.out.2.1.c2;have y3:W7.cell? ⟨sb,3,none⟩=some (.int .i64 sx.last):=H7.out.2.1.c3;have y4:W7.cell? ⟨sb,4,none⟩=some (.int .i64 sx.alone):=H7.out.2.1.c4;have y5:W7.cell? ⟨sb,5,none⟩=some (.int .i64 sx.claim):=H7.out.2.1.c5;go_wp2_with fail;refine HE7.out.mono ?_;rintro e W8 ⟨rfl,hb8⟩;have H8:=Lib.hid (H7.out.2.1.below hb8);have HS8:=Lib.hid (H7.out.2.2.2.2.2.2.below hb8);have HW8:=Lib.hid (H7.out.2.2.2.2.2.1.trans (hb8.mono H7.out.2.2.2.2.2.1.size));have HO8:=Lib.hid ((hb8.block _ (lt_of_block H7.out.2.2.2.2.1)).trans H7.out.2.2.2.2.1);clear y0 y1 y2 y3 y4 y5 hb8 HE7 HL7;obtain ⟨tx,htx⟩:∃x,textS sx=x:=⟨_,rfl⟩;rw [htx] at HOK ⊢;clear htx;by_cases hbt:tx=b;rotate_left
 · have HD:Hid (decP m b=none):=Lib.hid (HDN.out (by rw [HOK.out,decide_eq_false hbt];rfl));have htb: (tx == b)=false:=beq_eq_false_iff_ne.2 hbt;have q0:W8.cell? ⟨w.heap.size+1,0,none⟩=some (.slice none 0 0):=(cell_of_row _ _ 0 _ _ _ HO8.out).trans rfl;have q1:W8.cell? ⟨w.heap.size+1,1,none⟩=some (.slice none 0 0):=(cell_of_row _ _ 1 _ _ _ HO8.out).trans rfl;have q2:W8.cell? ⟨w.heap.size+1,2,none⟩=some (.slice none 0 0):=(cell_of_row _ _ 2 _ _ _ HO8.out).trans rfl;have q3:W8.cell? ⟨w.heap.size+1,3,none⟩=some (.int .i64 0):=(cell_of_row _ _ 3 _ _ _ HO8.out).trans rfl;have q4:W8.cell? ⟨w.heap.size+1,4,none⟩=some (.int .i64 0):=(cell_of_row _ _ 4 _ _ _ HO8.out).trans rfl;have q5:W8.cell? ⟨w.heap.size+1,5,none⟩=some (.int .i64 0):=(cell_of_row _ _ 5 _ _ _ HO8.out).trans rfl;have t0:=frozen_of_row _ _ 0 _ _ HO8.out;have t1:=frozen_of_row _ _ 1 _ _ HO8.out;have t2:=frozen_of_row _ _ 2 _ _ HO8.out;have t3:=frozen_of_row _ _ 3 _ _ HO8.out;have t4:=frozen_of_row _ _ 4 _ _ HO8.out;have t5:=frozen_of_row _ _ 5 _ _ HO8.out;go_wp2_with fail;refine bodyPost_ret (v:= .tuple #[.agg #[.slice none 0 0,.slice none 0 0,.slice none 0 0,.int .i64 0,.int .i64 0,.int .i64 0],.int .i64 41]) (by simp [results,Tryz.results23,go_sem,q0,q1,q2,q3,q4,q5,t0,t1,t2,t3,t4,t5]) rfl ?_;exact HBAD.out _ _ _ _ HW8.out HD.out
 subst hbt;have HD:Hid (decP m tx=some sx):=Lib.hid (by
  unfold decP;rw [HR.out];simp only;rw [HSF.out,HOK.out];simp)
 have y0:W8.cell? ⟨sb,0,none⟩=some (.slice hs.go sx.globals.length hs.gc):=H8.out.c0;have y1:W8.cell? ⟨sb,1,none⟩=some (.slice hs.co sx.chans.length hs.cc):=H8.out.c1;have y2:W8.cell? ⟨sb,2,none⟩=some (.slice hs.po sx.procs.length hs.pc):=H8.out.c2;have y3:W8.cell? ⟨sb,3,none⟩=some (.int .i64 sx.last):=H8.out.c3;have y4:W8.cell? ⟨sb,4,none⟩=some (.int .i64 sx.alone):=H8.out.c4;have y5:W8.cell? ⟨sb,5,none⟩=some (.int .i64 sx.claim):=H8.out.c5;have q0:W8.cell? ⟨w.heap.size+1,0,none⟩=some (.slice none 0 0):=(cell_of_row _ _ 0 _ _ _ HO8.out).trans rfl;have q1:W8.cell? ⟨w.heap.size+1,1,none⟩=some (.slice none 0 0):=(cell_of_row _ _ 1 _ _ _ HO8.out).trans rfl;have q2:W8.cell? ⟨w.heap.size+1,2,none⟩=some (.slice none 0 0):=(cell_of_row _ _ 2 _ _ _ HO8.out).trans rfl;have q3:W8.cell? ⟨w.heap.size+1,3,none⟩=some (.int .i64 0):=(cell_of_row _ _ 3 _ _ _ HO8.out).trans rfl;have q4:W8.cell? ⟨w.heap.size+1,4,none⟩=some (.int .i64 0):=(cell_of_row _ _ 4 _ _ _ HO8.out).trans rfl;have q5:W8.cell? ⟨w.heap.size+1,5,none⟩=some (.int .i64 0):=(cell_of_row _ _ 5 _ _ _ HO8.out).trans rfl;have t0:=frozen_of_row _ _ 0 _ _ HO8.out;have t1:=frozen_of_row _ _ 1 _ _ HO8.out;have t2:=frozen_of_row _ _ 2 _ _ HO8.out;have t3:=frozen_of_row _ _ 3 _ _ HO8.out;have t4:=frozen_of_row _ _ 4 _ _ HO8.out;have t5:=frozen_of_row _ _ 5 _ _ HO8.out;have HR1:Hid (decS m tx=sx):=Lib.hid (by unfold decS;rw [HGD.out,if_pos rfl,HD.out]);have HR2:Hid (decE m tx=0):=Lib.hid (by unfold decE;rw [HGD.out,if_pos rfl,HD.out]);have HZ8:Hid (∀ (W:World) (x0 x1 x2 x3 x4 x5:Value),Below w.heap.size w W→Below w.heap.size w ((((((W.setCell ⟨w.heap.size+1,0,none⟩ x0).setCell ⟨w.heap.size+1,1,none⟩ x1).setCell ⟨w.heap.size+1,2,none⟩ x2).setCell ⟨w.heap.size+1,3,none⟩ x3).setCell ⟨w.heap.size+1,4,none⟩ x4).setCell ⟨w.heap.size+1,5,none⟩ x5)):=Lib.hid fun W x0 x1 x2 x3 x4 x5 hb=>
  (((((hb.setCell (by simp) _).setCell (by simp) _).setCell (by simp) _).setCell (by simp) _).setCell (by simp) _).setCell (by simp) _
 go_wp2_with fail;refine bodyPost_ret (v:= .tuple #[.agg #[.slice hs.go sx.globals.length hs.gc,.slice hs.co sx.chans.length hs.cc,.slice hs.po sx.procs.length hs.pc,.int .i64 sx.last,.int .i64 sx.alone,.int .i64 sx.claim],.int .i64 0]) (by simp [results,Tryz.results23,go_sem,q0,q1,q2,q3,q4,q5,t0,t1,t2,t3,t4,t5]) rfl ?_;unfold DecR;rw [HR1.out,HR2.out];refine ⟨hs,rfl, ?_,HZ8.out _ _ _ _ _ _ _ HW8.out⟩;refine SRow.sd (HS8.out.gb ?_ HB9.out);exact gb_trans (gb_trans (gb_trans (gb_trans (gb_trans (gb_set _ _ _ _) (gb_set _ _ _ _)) (gb_set _ _ _ _)) (gb_set _ _ _ _)) (gb_set _ _ _ _)) (gb_set _ _ _ _)
end Go.Proofs.YtnoibjahliafpaaGreatDoor
