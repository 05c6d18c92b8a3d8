/- A number's decimal, put behind a text; a text's number. -/
import Derived.Test.YtnoibjahliafpaaDoorM02
import Derived.Test.YtnoibjahliafpaaDoorM31
import Derived.Laws.AppendOwn
import Derived.Lib.LaidTab
import Derived.Lib.OthersKept
import Derived.Test.YtnoibjahliafpaaDoorM23
import Derived.ScopeJumps
import Derived.WalkMore
import Derived.Tactics
import Derived.Test.YtnoibjahliafpaaDoorM25
set_option linter.unusedVariables false
set_option linter.unusedSimpArgs false
namespace Go.Proofs.YtnoibjahliafpaaDoor
open Go.ChangeShapes Go.WideShapes Go.ChangeAt Go.RowKit
structure TabP (w:World):Prop where
 pow:Lib.TabIs Tryd.prog w "internal/strconv.uint64pow10" .u64 Lib.pow10Tab
 syn:∃te pe,w.cell? ⟨0,0,none⟩=some (.iface te pe)
 ran:∃te pe,w.cell? ⟨1,0,none⟩=some (.iface te pe)
def TabW (w:World):Prop:=∀w',Below w.heap.size w w'→TabP w'
theorem TabW.here {w:World} (h:TabW w):TabP w:=h w (Below.refl _ _)
theorem TabW.below {w w':World} (h:TabW w) (hb:Below w.heap.size w w'):TabW w':=fun v hv=>h v (hb.trans (hv.mono hb.size))
theorem info_u8: (Tryd.prog.info? 5).map (fun i=>(i.zero,i.size,i.bytes))=some (some (.int .u8 0),1,1):=by kernel_rfl
def AppP (B:Nat) (w:World) (n:Nat) (xs:List Value) (L:List UInt8) (e:Ending) (w':World):Prop:=∃o c,e= .returned (.slice o (n+L.length) c)∧w'.ownsRow B 5 1 (.slice o (n+L.length) c) (n+L.length) (xs ++ Lib.byteCells L)∧Below B w w'∧Lib.OthersKept 5 none w w'
theorem appI (B n:Nat) (v:Int) (hv:inI v) (sv:Value) (xs:List Value) (w:World) (hown:w.ownsRow B 5 1 sv n xs) (hBw:B≤w.heap.size) (hlim:n+70≤140737488355328) (hB:∀w',Below B w w'→TabP w'):
 Calls Tryd.prog 30 #[sv,.int .i64 v,.int .i64 10] w (AppP B w n xs (Lib.itoa v)):=by
 refine (Tryd.strconv_AppendInt_10 B n v hv.1 hv.2 sv xs w hown hBw (by omega) (fun w' h=>(hB w' h).pow)).mono ?_;rintro e w2 ⟨v',rfl,h1,h2,h3⟩;obtain ⟨o,c,rfl⟩:=owns_head h1;exact ⟨o,c,rfl,h1,h2,h3⟩
theorem below_bytes (w:World) (e:TypeId) (s:ByteArray):Below w.heap.size w (Lib.bytesWorld w e s):=
 ⟨rfl,rfl,rfl,by rw [Lib.bytesWorld_size];omega,fun k hk=>Lib.bytesWorld_at_old w e s k hk⟩
def PintP (s:List UInt8) (w:World) (e:Ending) (w':World):Prop:=
 ∃v ev,e= .returned (.tuple #[.int .i64 v,ev])∧ ((ev= .nilIface∧Lib.parseIntB 64 s= .ok v)∨ ((∃t p,ev= .iface t p)∧∀v,Lib.parseIntB 64 s≠ .ok v))∧Below w.heap.size w w'
theorem parseInt_any (s:List UInt8) (w:World) (hs:s.length≤4294967281) (hv:TabP w):Calls Tryd.prog 33 #[.string ⟨s.toArray⟩,.int .i64 10,.int .i64 64] w (PintP s w):=by
 obtain ⟨te,pe,h1⟩:=hv.syn;obtain ⟨te2,pe2,h2⟩:=hv.ran;have hsz: (⟨s.toArray⟩:ByteArray).size=s.length:=by simp [ByteArray.size]
 rcases hp:Lib.parseIntB 64 s with v | _ | _
 · refine (Tryd.strconv_ParseInt_10_at64_ok ⟨s.toArray⟩ (by omega) v (by simpa using hp) w).mono ?_;rintro e w' ⟨rfl,hw⟩;refine ⟨_,_,rfl,.inl ⟨rfl,hp⟩, ?_⟩;rcases hw with rfl | ⟨t,rfl⟩
   · exact Below.refl _ _
   · exact below_bytes w _ _
 all_goals first
  | (refine (Tryd.strconv_ParseInt_10_at64_syntax ⟨s.toArray⟩ (by omega) (by simpa using hp) _ w h1 (.inr ⟨_,_,rfl⟩)).mono ?_;rintro e w' ⟨N,rfl,_,_,hb⟩;exact ⟨_,_,rfl,.inr ⟨⟨_,_,rfl⟩,fun v=>by rw [hp];simp⟩,hb⟩)
  | (refine (Tryd.strconv_ParseInt_10_at64_range ⟨s.toArray⟩ (by omega) (by simpa using hp) _ w h2 (.inr ⟨_,_,rfl⟩)).mono ?_;rintro e w' ⟨N,rfl,_,_,hb⟩;exact ⟨_,_,rfl,.inr ⟨⟨_,_,rfl⟩,fun v=>by rw [hp];simp⟩,hb⟩)
end Go.Proofs.YtnoibjahliafpaaDoor
namespace Go.Proofs.YtnoibjahliafpaaDoor
open Go
def jump3 (l0 l1 l2:Nat) (J0 J1 J2:Act→World→Prop) (Q:Exit→Act→World→Prop):Exit→Act→World→Prop
 | .goto l,a,w=>(l=l0∧J0 a w)∨ (l=l1∧J1 a w)∨ (l=l2∧J2 a w)
 | e,a,w=>Q e a w
section
variable {P:Program} {a:Act} {w:World} {Q:Exit→Act→World→Prop}
theorem wp_scope_ghost3 {c r0 r1 r2:Code} (l0 l1 l2:Nat) (J0 J1 J2:Nat→Act→World→Prop) (hf0:findLabel c l0=some r0) (hf1:findLabel c l1=some r1) (hf2:findLabel c l2=some r2)
 (first:c.wp P (jump3 l0 l1 l2 (fun a w=>∃m,J0 m a w) (fun a w=>∃m,J1 m a w) (fun a w=>∃m,J2 m a w) Q) a w)
 (pass0:∀m a w,J0 m a w→r0.wp P (jump3 l0 l1 l2 (fun a' w'=>∃m',m' < m∧J0 m' a' w') (fun a' w'=>∃m',m' < m∧J1 m' a' w') (fun a' w'=>∃m',m' < m∧J2 m' a' w') Q) a w)
 (pass1:∀m a w,J1 m a w→r1.wp P (jump3 l0 l1 l2 (fun a' w'=>∃m',m' < m∧J0 m' a' w') (fun a' w'=>∃m',m' < m∧J1 m' a' w') (fun a' w'=>∃m',m' < m∧J2 m' a' w') Q) a w)
 (pass2:∀m a w,J2 m a w→r2.wp P (jump3 l0 l1 l2 (fun a' w'=>∃m',m' < m∧J0 m' a' w') (fun a' w'=>∃m',m' < m∧J1 m' a' w') (fun a' w'=>∃m',m' < m∧J2 m' a' w') Q) a w): (Code.scope c).wp P Q a w:=by
 intro b k cs;have hg0:gotoIn l0 (.inScope c :: k)=some (.code r0 :: .inScope c :: k):=by simp [gotoIn,hf0]
 have hg1:gotoIn l1 (.inScope c :: k)=some (.code r1 :: .inScope c :: k):=by simp [gotoIn,hf1]
 have hg2:gotoIn l2 (.inScope c :: k)=some (.code r2 :: .inScope c :: k):=by simp [gotoIn,hf2]
 have key:∀m a w,(J0 m a w→∃e a' w',Q e a' w'∧Arrives P (lone (b.at a (.code r0 :: .inScope c :: k)) cs w) b k cs e a' w')∧ (J1 m a w→∃e a' w',Q e a' w'∧Arrives P (lone (b.at a (.code r1 :: .inScope c :: k)) cs w) b k cs e a' w')∧ (J2 m a w→∃e a' w',Q e a' w'∧Arrives P (lone (b.at a (.code r2 :: .inScope c :: k)) cs w) b k cs e a' w'):=by
  intro m
  induction m using Nat.strongRecOn with
  | _ m ih=>
    intro a w;have one:∀r:Code,r.wp P (jump3 l0 l1 l2 (fun a' w'=>∃m',m' < m∧J0 m' a' w') (fun a' w'=>∃m',m' < m∧J1 m' a' w') (fun a' w'=>∃m',m' < m∧J2 m' a' w') Q) a w→∃e a' w',Q e a' w'∧Arrives P (lone (b.at a (.code r :: .inScope c :: k)) cs w) b k cs e a' w':=by
     intro r hr;obtain ⟨e,a₁,w₁,hq,harr⟩:=hr b (.inScope c :: k) cs;cases e with
     | normal=>exact ⟨.normal,a₁,w₁,hq,Steps.trans harr (.one step_inScope)⟩
     | exit id=>exact ⟨.exit id,a₁,w₁,hq,fun k' hk=>harr k' (by simp [exitTo,hk])⟩
     | goto l'=>
       rcases hq with ⟨rfl,m',hlt,hJ'⟩ | ⟨rfl,m',hlt,hJ'⟩ | ⟨rfl,m',hlt,hJ'⟩
       · obtain ⟨e₂,a₂,w₂,hq₂,harr₂⟩:=(ih m' hlt a₁ w₁).1 hJ';exact ⟨e₂,a₂,w₂,hq₂,.of_steps (harr _ hg0) harr₂⟩
       · obtain ⟨e₂,a₂,w₂,hq₂,harr₂⟩:=(ih m' hlt a₁ w₁).2.1 hJ';exact ⟨e₂,a₂,w₂,hq₂,.of_steps (harr _ hg1) harr₂⟩
       · obtain ⟨e₂,a₂,w₂,hq₂,harr₂⟩:=(ih m' hlt a₁ w₁).2.2 hJ';exact ⟨e₂,a₂,w₂,hq₂,.of_steps (harr _ hg2) harr₂⟩
     | ret=>exact ⟨_,a₁,w₁,hq,harr⟩
     | panic ch=>exact ⟨_,a₁,w₁,hq,harr⟩
     | outgrown=>exact ⟨_,a₁,w₁,hq,harr⟩
    exact ⟨fun hJ=>one _ (pass0 m a w hJ),fun hJ=>one _ (pass1 m a w hJ),fun hJ=>one _ (pass2 m a w hJ)⟩
 obtain ⟨e,a₁,w₁,hq,harr⟩:=first b (.inScope c :: k) cs;cases e with
 | normal=>exact ⟨.normal,a₁,w₁,hq,.head step_scope (Steps.trans harr (.one step_inScope))⟩
 | exit id=>exact ⟨.exit id,a₁,w₁,hq,fun k' hk=> .head step_scope (harr k' (by simp [exitTo,hk]))⟩
 | goto l'=>
   rcases hq with ⟨rfl,m,hJ'⟩ | ⟨rfl,m,hJ'⟩ | ⟨rfl,m,hJ'⟩
   · obtain ⟨e₂,a₂,w₂,hq₂,harr₂⟩:=(key m a₁ w₁).1 hJ';exact ⟨e₂,a₂,w₂,hq₂,.of_steps (.head step_scope (harr _ hg0)) harr₂⟩
   · obtain ⟨e₂,a₂,w₂,hq₂,harr₂⟩:=(key m a₁ w₁).2.1 hJ';exact ⟨e₂,a₂,w₂,hq₂,.of_steps (.head step_scope (harr _ hg1)) harr₂⟩
   · obtain ⟨e₂,a₂,w₂,hq₂,harr₂⟩:=(key m a₁ w₁).2.2 hJ';exact ⟨e₂,a₂,w₂,hq₂,.of_steps (.head step_scope (harr _ hg2)) harr₂⟩
 | ret=>exact ⟨_,a₁,w₁,hq,.of_steps (.one step_scope) harr⟩
 | panic ch=>exact ⟨_,a₁,w₁,hq,.of_steps (.one step_scope) harr⟩
 | outgrown=>exact ⟨_,a₁,w₁,hq,.of_steps (.one step_scope) harr⟩
theorem jump3_mono {l0 l1 l2:Nat} {J0 J1 J2 J0' J1' J2':Act→World→Prop} (h0:∀a w,J0 a w→J0' a w) (h1:∀a w,J1 a w→J1' a w) (h2:∀a w,J2 a w→J2' a w):∀ (e:Exit) (a:Act) (w:World),jump3 l0 l1 l2 J0 J1 J2 Q e a w→jump3 l0 l1 l2 J0' J1' J2' Q e a w:=by
 intro e a w hq;cases e with
 | goto l'=>
   rcases hq with ⟨h,hj⟩ | ⟨h,hj⟩ | ⟨h,hj⟩
   · exact .inl ⟨h,h0 _ _ hj⟩
   · exact .inr (.inl ⟨h,h1 _ _ hj⟩)
   · exact .inr (.inr ⟨h,h2 _ _ hj⟩)
 | normal=>exact hq
 | exit _=>exact hq
 | ret=>exact hq
 | panic _=>exact hq
 | outgrown=>exact hq
theorem wp_scope_chain3 {c r0 r1 r2:Code} (l0 l1 l2:Nat) (J0 J1 J2:Nat→Act→World→Prop) (hf0:findLabel c l0=some (Code.skip.seq r0)) (hf1:findLabel c l1=some (Code.skip.seq r1)) (hf2:findLabel c l2=some (Code.skip.seq r2))
 (pass1:∀m a w,J1 m a w→r1.wp P (jump3 l0 l1 l2 (fun a' w'=>∃m',m' < m∧J0 m' a' w') (fun a' w'=>∃m',m' < m∧J1 m' a' w') (fun a' w'=>∃m',m' < m∧J2 m' a' w') Q) a w)
 (pass2:∀m a w,J2 m a w→r2.wp P (jump3 l0 l1 l2 (fun a' w'=>∃m',m' < m∧J0 m' a' w') (fun a' w'=>∃m',m' < m∧J1 m' a' w') (fun a' w'=>∃m',m' < m∧J2 m' a' w') Q) a w)
 (pass0: (∀m m2 a w,m≤m2→J2 m a w→r2.wp P (jump3 l0 l1 l2 (fun a' w'=>∃m',m' < m2∧J0 m' a' w') (fun a' w'=>∃m',m' < m2∧J1 m' a' w') (fun a' w'=>∃m',m' < m2∧J2 m' a' w') Q) a w)→
   ∀m a w,J0 m a w→r0.wp P (jump3 l0 l1 l2 (fun a' w'=>∃m',m' < m∧J0 m' a' w') (fun a' w'=>∃m',m' < m∧J1 m' a' w') (fun a' w'=>∃m',m' < m∧J2 m' a' w') Q) a w)
 (first: (∀m a w,J0 m a w→r0.wp P (jump3 l0 l1 l2 (fun a w=>∃m,J0 m a w) (fun a w=>∃m,J1 m a w) (fun a w=>∃m,J2 m a w) Q) a w)→
   c.wp P (jump3 l0 l1 l2 (fun a w=>∃m,J0 m a w) (fun a w=>∃m,J1 m a w) (fun a w=>∃m,J2 m a w) Q) a w): (Code.scope c).wp P Q a w:=by
 have h0:=pass0 (fun m m2 a w hle hJ=>Code.wp_mono (jump3_mono (fun _ _ ⟨m',h,j⟩=>⟨m',by omega,j⟩) (fun _ _ ⟨m',h,j⟩=>⟨m',by omega,j⟩) (fun _ _ ⟨m',h,j⟩=>⟨m',by omega,j⟩)) (pass2 m a w hJ));exact wp_scope_ghost3 l0 l1 l2 J0 J1 J2 hf0 hf1 hf2 (first fun m a w hJ=>Code.wp_mono (jump3_mono (fun _ _ ⟨m',h,j⟩=>⟨m',j⟩) (fun _ _ ⟨m',h,j⟩=>⟨m',j⟩) (fun _ _ ⟨m',h,j⟩=>⟨m',j⟩)) (h0 m a w hJ)) (fun m a w hJ=>wp_seq (wp_skip (h0 m a w hJ))) (fun m a w hJ=>wp_seq (wp_skip (pass1 m a w hJ))) (fun m a w hJ=>wp_seq (wp_skip (pass2 m a w hJ)))
end
end Go.Proofs.YtnoibjahliafpaaDoor
namespace Go.Proofs.YtnoibjahliafpaaDoor
open Go.ChangeShapes Go.WideShapes Go.ChangeAt Go.RowKit
def piece (s:List UInt8) (fr i:Nat):List UInt8:=(s.drop fr).take (i - fr)
theorem extract_piece (s:List UInt8) (fr i:Nat): (⟨s.toArray⟩:ByteArray).extract fr i= ⟨(piece s fr i).toArray⟩:=by
 apply ByteArray.ext;simp [piece,ByteArray.extract,ByteArray.copySlice,List.extract_eq_take_drop]
theorem slice_piece (s:List UInt8) (fr i:Nat) (h1:fr≤i) (h2:i≤s.length) (W:World): (Instr.slice 9 (.string ⟨s.toArray⟩) (some (.int .i64 (fr:Int))) (some (.int .i64 (i:Int))) none).run Tryd.prog W= .ok (.string ⟨(piece s fr i).toArray⟩) W:=by
 have hsz: (⟨s.toArray⟩:ByteArray).size=s.length:=by simp [ByteArray.size]
 have:=run_slice_string (P:=Tryd.prog) (w:=W) 9 ⟨s.toArray⟩ .i64 .i64 (fr:Int) (i:Int) Tryd.underlying9 (by omega) (by omega) (by omega);rw [Int.toNat_natCast,Int.toNat_natCast,extract_piece] at this;exact this
theorem bt_at2 (t:List UInt8) (k:Nat) (h:k < t.length): (⟨t.toArray⟩:ByteArray)[k]'(by simpa [ByteArray.size] using h)=t[k]:=rfl
theorem b_ne44 {b:UInt8} (h:b≠44): ((b.toNat:Int) != 44)=true:=by
 rw [bne_iff_ne];intro e
 exact h (UInt8.toNat_inj.1 (by have :b.toNat=44:=by omega
                                rw [this];rfl))
theorem piece_next {s:List UInt8} {fr i:Nat} (hf:fr≤i) (hi:i < s.length):piece s fr (i+1)=piece s fr i ++ [s[i]]:=by
 unfold piece;rw [show i+1 - fr= (i - fr)+1 by omega,List.take_succ_eq_append_getElem (by simp;omega)];congr 2;simp;congr 1;omega
theorem piece_none (s:List UInt8) (i:Nat):piece s i i= []:=by unfold piece;simp
theorem piece_empty {s:List UInt8} {fr i:Nat} (hf:fr≤i) (hi:i≤s.length): (piece s fr i).isEmpty=decide (fr=i):=by
 unfold piece;rw [Bool.eq_iff_iff];simp;omega
def nmF (b:List UInt8) (lv:Value) (at_:Int) (fv:Value) (X:Nat→Value):Act:={ tmps:=#[.string ⟨b.toArray⟩,undef,.slice none 0 0,.bool false,lv,.int .i64 at_,fv,X 7,X 8,X 9,X 10,X 11,X 12,X 13,X 14,X 15,X 16,X 17,X 18,X 19,X 20,X 21,X 22,X 23,X 24,X 25,X 26,X 27,X 28,X 29,X 30,X 31,X 32,X 33,X 34,X 35,X 36,X 37,X 38,X 39],defers:=[] }
theorem nmF_of {b:List UInt8} {lv:Value} {at_:Int} {fv:Value} (t:Array Value) (h:t= (nmF b lv at_ fv (fun i=>t.getD i undef)).tmps):∃X,({ tmps:=t,defers:=[] }:Act)=nmF b lv at_ fv X:=
 ⟨fun i=>t.getD i undef,by rw [show nmF b lv at_ fv (fun i=>t.getD i undef)= { tmps:=(nmF b lv at_ fv (fun i=>t.getD i undef)).tmps,defers:=[] } from rfl,←h]⟩
def NJ0 (b:List UInt8) (R:Option (List Int × Bool)) (w:World) (m:Nat) (a':Act) (wr:World):Prop:=∃ (k:Nat) (l:List Int) (o:Option Addr) (c:Nat) (fv:Value),m=2* (b.length - k)+1∧k≤b.length∧l.length≤k∧Hid (R=readP [] (b.drop k) l)∧Hid (wr.ownsRow w.heap.size 2 1 (.slice o l.length c) l.length (intsV l))∧Hid (Below w.heap.size w wr)∧∃X,a'=nmF b (.slice o l.length c) k fv X
def NJ1 (b:List UInt8) (R:Option (List Int × Bool)) (w:World) (m:Nat) (a':Act) (wr:World):Prop:=∃ (k fr:Nat) (l:List Int) (o:Option Addr) (c:Nat),m=0∧k≤b.length∧fr≤k∧Hid (R=some (l,decide (fr=k)))∧Hid (wr.ownsRow w.heap.size 2 1 (.slice o l.length c) l.length (intsV l))∧Hid (Below w.heap.size w wr)∧∃X,a'=nmF b (.slice o l.length c) k (.int .i64 fr) X
def NJ2 (b:List UInt8) (R:Option (List Int × Bool)) (w:World) (m:Nat) (a':Act) (wr:World):Prop:=∃ (k fr:Nat) (l:List Int) (o:Option Addr) (c:Nat),m=2* (b.length - k)+1∧k≤b.length∧fr≤k∧l.length≤k∧Hid (R=readP (piece b fr k) (b.drop k) l)∧Hid (wr.ownsRow w.heap.size 2 1 (.slice o l.length c) l.length (intsV l))∧Hid (Below w.heap.size w wr)∧∃X,a'=nmF b (.slice o l.length c) k (.int .i64 fr) X
def NmP (R:Option (List Int × Bool)) (w:World) (e:Ending) (w':World):Prop:=
 (∃l f o c,R=some (l,f)∧e= .returned (.tuple #[.slice o l.length c,.bool f])∧w'.ownsRow w.heap.size 2 1 (.slice o l.length c) l.length (intsV l)∧Below w.heap.size w w')∨
 (R=none∧e= .returned (.tuple #[.slice none 0 0,.bool false])∧Below w.heap.size w w')
set_option maxRecDepth 100000 in
set_option maxHeartbeats 2000000 in
theorem numbersC (b:List UInt8) (w:World) (hb:b.length≤4294967281) (ht:TabW w):
 Calls Tryd.prog 14 #[.string ⟨b.toArray⟩] w (NmP (readP [] b []) w):=by
 obtain ⟨R,hR⟩:∃R,readP [] b []=R:=⟨_,rfl⟩;have HR:=Lib.hid hR;have HT:=Lib.hid ht;rw [hR];clear hR ht;go_enter Tryd.func14,Tryd.ntmps14;go_wp2_with fail;refine wp_scope_chain3 0 1 2 (NJ0 b R w) (NJ1 b R w) (NJ2 b R w) rfl rfl rfl ?_ ?_ ?_ ?_
 · intro m a' wr hj;obtain ⟨k,fr,l,o,c,rfl,hk,hfk,HRR,HO,HB,X,rfl⟩:=hj;simp only [nmF];have hd: ((fr:Int) == (k:Int))=decide (fr=k):=by
    rw [Bool.eq_iff_iff];simp;omega
   obtain ⟨d,hdd⟩:∃d,decide (fr=k)=d:=⟨_,rfl⟩;have HZ:Hid (NmP R w (.returned (.tuple #[.slice o l.length c,.bool d])) wr):=Lib.hid (.inl ⟨l,d,o,c,by rw [←hdd];exact HRR.out,rfl,HO.out,HB.out⟩);rw [hdd] at hd;clear hdd;go_wp2_with fail;simp only [jump3];go_ret2;exact HZ.out
 · intro m a' wr hj;obtain ⟨k,fr,l,o,c,rfl,hk,hfk,hl,HRR,HO,HB,X,rfl⟩:=hj;have hk0: (0:Int)≤k:=by omega
   by_cases hke:k=b.length
   · have he: ((k:Int) == (b.length:Int))=true:=by rw [beq_iff_eq];omega
     have HZ:Hid (R=some (l,decide (fr=k))):=Lib.hid (by
      rw [HRR.out,hke,List.drop_length,readP,piece_empty (by omega) (Nat.le_refl _)])
     simp only [nmF];clear hke;go_wp2_with fail;go_step3;exact .inr (.inl ⟨rfl,0,by omega,k,fr,l,o,c,rfl,hk,hfk,HZ,HO,HB,nmF_of _ rfl⟩)
   · have hkl:k < b.length:=by omega
     have hkli: (k:Int) < b.length:=by omega
     have he: ((k:Int) == (b.length:Int))=false:=by rw [beq_eq_false_iff_ne];omega
     have hb0:=bt_at2 b k hkl;obtain ⟨x,hx⟩:∃x,b[k]=x:=⟨_,rfl⟩;rw [hx] at hb0;have HX:=Lib.hid hx;have hdr:b.drop k=x :: b.drop (k+1):=by rw [←hx];exact List.drop_eq_getElem_cons hkl
     clear hx hke;by_cases hc:x=44
     · have hc2: ((x.toNat:Int) != 44)=false:=by rw [hc];rfl
       have HRD:Hid ((∀v,Lib.parseIntB 64 (piece b fr k)= .ok v→R=readP [] (b.drop (k+1)) (l ++ [v]))∧ ((∀v,Lib.parseIntB 64 (piece b fr k)≠ .ok v)→R=none)):=Lib.hid (by
        rw [HRR.out,hdr,readP,if_pos hc];refine ⟨fun v hv=>by rw [hv],fun hn=> ?_⟩;split
        · rename_i v hv
          exact absurd hv (hn v)
        · rfl)
       have hsl:=slice_piece b fr k hfk hk;have HPI:=Lib.hid (parseInt_any (piece b fr k) wr (by unfold piece;simp;omega) (HT.out _ HB.out));have hfi: (fr:Int)≤k:=by omega
       have hf0: (0:Int)≤fr:=by omega
       simp only [nmF];clear hdr hc;go_wp2_with fail;refine HPI.out.mono ?_;rintro e W2 ⟨v,ev,rfl,hcase,hb2⟩;have HB2:Hid (Below w.heap.size w W2):=Lib.hid (HB.out.trans (hb2.mono HB.out.size));have HO2:=Lib.hid ((owns_below HO.out hb2).alloc (.cells #[.int .i64 v] 2));have HLE:Hid (w.heap.size≤ (W2.alloc (.cells #[.int .i64 v] 2)).heap.size):=Lib.hid (by have:=HB2.out.size;simp;omega);obtain ⟨ii,hi1,hi2,hi3,hi4⟩:=info_parts info_ints;have HI:=Lib.hid (And.intro hi1 (And.intro hi2 (And.intro hi3 hi4)));clear hb2 HPI hi1 hi2 hi3 hi4;rcases hcase with ⟨rfl,hv⟩ | ⟨⟨tt,pp,rfl⟩,hn⟩
       · have HRV:=Lib.hid (HRD.out.1 v hv);clear hv;go_wp2_with (at_builtin;refine wpList_append_keep rfl _ _ 23 rfl w.heap.size 2 ii (.int .i64 0) 1 8 Tryd.underlying23 HI.out.1 HI.out.2.1 HI.out.2.2.1 HI.out.2.2.2 rfl (by decide) (.slice o l.length c) l.length (intsV l) rfl HO2.out ⟨W2.heap.size,0,none⟩ 1 1 [.int .i64 v] rfl rfl (arr_one _ _ _) (by simp [Value.oneCell']) (by unfold maxLen;omega) (by omega) HLE.out ?_);intro o3 c3 W3 ho3 hg3 hn3;have HO3:Hid (W3.ownsRow w.heap.size 2 1 (.slice o3 (l ++ [v]).length c3) (l ++ [v]).length (intsV (l ++ [v]))):=Lib.hid (by
          rw [List.length_append,List.length_singleton];simp only [intsV,List.map_append,List.map_cons,List.map_nil] at ho3 ⊢;exact ho3)
         have HB3:Hid (Below w.heap.size w W3):=Lib.hid ((HB2.out.trans ((ball _).mono HB2.out.size)).grown hg3 HLE.out (fun q hq=>(HO2.out.lt q hq).1));have hll:l.length+1= (l ++ [v]).length:=by simp
         rw [hll];have hlv: (l ++ [v]).length≤k+1:=by simp;omega
         clear ho3 hg3 hn3 hll;go_wp2_with fail;go_step3;exact .inl ⟨rfl,2* (b.length - (k+1))+1,by omega,k+1,l ++ [v],o3,c3,_,rfl,by omega,hlv,HRV,HO3,HB3,nmF_of _ rfl⟩
       · have HRV:=Lib.hid (HRD.out.2 hn);clear hn;go_wp2_with fail;simp only [jump3];go_ret2;exact .inr ⟨HRV.out,rfl,HB2.out⟩
     · have hc2:=b_ne44 hc;have HRD:Hid (R=readP (piece b fr (k+1)) (b.drop (k+1)) l):=Lib.hid (by
        rw [HRR.out,hdr,readP,if_neg hc,piece_next hfk hkl,HX.out])
       simp only [nmF];clear hdr hc;go_wp2_with fail;go_step3;exact .inr (.inr ⟨rfl,2* (b.length - (k+1))+1,by omega,k+1,fr,l,o,c,rfl,by omega,by omega,by omega,HRD,HO,HB,nmF_of _ rfl⟩)
 · intro HD m a' wr hj;obtain ⟨k,l,o,c,fv,rfl,hk,hl,HRR,HO,HB,X,rfl⟩:=hj;simp only [nmF];go_wp2_with fail;go_step3;refine (by assumption:∀ (a:Act) (w:World),Code.wp Tryd.prog _ _ a w→ (_:Act→World→Prop) a w) _ _ ?_;refine HD _ _ _ _ (Nat.le_refl _) ?_;exact ⟨k,k,l,o,c,rfl,hk,Nat.le_refl _,hl,by rw [piece_none];exact HRR,HO,HB,nmF_of _ rfl⟩
 · intro HN;go_wp2_with fail;go_step3;refine (by assumption:∀ (a:Act) (w:World),Code.wp Tryd.prog _ _ a w→ (_:Act→World→Prop) a w) _ _ ?_;refine HN (2* (b.length - 0)+1) _ _ ?_;exact ⟨0,[],none,0,.int .i64 0,rfl,by omega,by simp,Lib.hid (by rw [List.drop_zero];exact HR.out.symm),Lib.hid (World.ownsRow_nil _ _ _ _),Lib.hid (Below.refl _ _),nmF_of _ rfl⟩
end Go.Proofs.YtnoibjahliafpaaDoor
