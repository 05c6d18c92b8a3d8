/- All ways of a place, list by list, as the document has them. -/
import Derived.Test.YthfldokfnjpkmaaGreatDoorM27
import Derived.Test.YthfldokfnjpkmaaGreatDoorM38
import Derived.Test.YthfldokfnjpkmaaGreatDoorM20
import Derived.Deep.Cut
set_option linter.unusedVariables false
set_option linter.unusedSimpArgs false
namespace Go.Proofs.YthfldokfnjpkmaaGreatDoor
open Go.ChangeShapes Go.WideShapes Go.ChangeAt Go.RowKit
structure GJ (w0:World) (XS:Array Value) (T e:TypeId) (v:Value) (xs:List Value) (W:World):Prop where
 own:W.ownsRow (w0.heap.size+1) e 1 v xs.length xs
 bx:Bq w0 w0.heap.size XS T W
section
variable {w0 W W1:World} {XS:Array Value} {T e:TypeId} {v v1:Value} {xs ys:List Value} {o:Obj}
theorem GJ.base (h:GJ w0 XS T e v xs W):w0.heap.size+1≤W.heap.size:=lt_of_block h.bx.box
theorem GJ.put (h:GJ w0 XS T e v xs W) (hg: (W.alloc o).grownBy W1 v.ownBlock) (ho:W1.ownsRow (w0.heap.size+1) e 1 v1 (xs.length+ys.length) (xs ++ ys)):GJ w0 XS T e v1 (xs ++ ys) W1:=by
 have hb:=h.base;refine ⟨by rw [List.length_append];exact ho, ?_, ?_⟩
 · rw [hg.block w0.heap.size (by simp;omega) (fun e=>by have:=(h.own.lt _ e.symm).1;omega)];exact ((ball o).block _ hb).trans h.bx.box
 · exact (h.bx.bel.alloc h.bx.bel.size _).grown hg (by simp;omega) (fun k hk=>by have:=(h.own.lt k hk).1;omega)
theorem GJ.put0 (h:GJ w0 XS T e v xs W) (hg:W.grownBy W1 v.ownBlock) (ho:W1.ownsRow (w0.heap.size+1) e 1 v1 (xs.length+ys.length) (xs ++ ys)):GJ w0 XS T e v1 (xs ++ ys) W1:=by
 have hb:=h.base;refine ⟨by rw [List.length_append];exact ho, ?_, ?_⟩
 · rw [hg.block w0.heap.size (by omega) (fun e=>by have:=(h.own.lt _ e.symm).1;omega)];exact h.bx.box
 · exact h.bx.bel.grown hg (by omega) (fun k hk=>by have:=(h.own.lt k hk).1;omega)
end
def WaysP (w:World) (B:Nat) (p:List (List TransD)) (e:Ending) (w':World):Prop:=∃o c,e= .returned (.slice o p.length c)∧Row w'.heap.size o 1 (escAt B w') p∧Below w.heap.size w w'
def lCells (l:LocD) (oo eo:Option Addr) (oc ec:Nat):Array Value:=#[.slice oo l.out.length oc,.slice eo l.esc.length ec,.bool l.atomic,.bool l.dstep,.bool l.fin,.bool l.accept,.bool l.progress]
theorem info_ways: (Tryz.prog.info? 62).map (fun i=>(i.zero,i.size,i.bytes))=some (some (.slice none 0 0),1,24):=by kernel_rfl
theorem one_way (W:World) (x:Value):∀j u',[x][j]? =some u'→ (W.alloc (.cells #[x] 62)).cell? ((⟨W.heap.size,0,none⟩:Addr).add j)=some u':=by
 intro j u' hj
 match j,hj with
 | 0,hj=>simp at hj;subst hj;exact (cell_of_row _ _ 0 _ _ _ (heap_alloc_new W _)).trans rfl
 | j+1,hj=>simp at hj
theorem GJ.ways {w0 W:World} {B:Nat} {XS:Array Value} {v:Value} {xs:List Value} {p:List (List TransD)} (h:GJ w0 XS 70 62 v xs W) (hp:0 < p.length) (hp2:p.length≤9) (hl:xs.length=p.length) (he:∀i (hi:i < p.length) (hx:i < xs.length),∃o c,xs[i]= .slice o p[i].length c∧Row B o 9 (transAt B w0) p[i]) (hB:B≤w0.heap.size):WaysP w0 B p (.returned v) W:=by
 rcases h.own.2 with ⟨rfl,hl0⟩ | ⟨g,cap,cur,rfl,hb,hg,hc,hm,hs,ht⟩
 · omega
 · refine ⟨some ⟨g,0,none⟩,cap,by rw [hl],⟨by omega,.inr ⟨g,0,rfl,lt_of_block hg,fun i hi=> ?_⟩⟩,h.bx.bel⟩;obtain ⟨o,c,h1,h2⟩:=he i hi (by omega);have h3:=h.own.cells (g:=g) rfl i (.slice o p[i].length c) (by rw [←h1];simp);rw [held.add_off] at h3;refine ⟨o,c,by rw [show 0+i*1=0+i by omega];exact h3,h2.mono fun _ _ _ hg=>transAt.below (h.bx.bel.mono hB) hg⟩
set_option maxRecDepth 100000 in
set_option maxHeartbeats 2000000 in
theorem waysRowH {B:Nat} (l:LocD) (oo eo:Option Addr) (oc ec:Nat) (w:World) (hB:B≤w.heap.size) (h1:Row B oo 9 (transAt B w) l.out) (h2:Row B eo 1 (escAt B w) l.esc) (h8:l.esc.length≤8):
 Calls Tryz.prog 155 #[.agg (lCells l oo eo oc ec)] w (WaysP w B (l.out :: l.esc)):=by
 obtain ⟨i0,hi,hz0,hz1,hz2⟩:=held.info_parts info_ways;have HI:=Lib.hid (And.intro hi (And.intro hz0 (And.intro hz1 hz2)));have H1:=Lib.hid h1;have H2:=Lib.hid h2;have HBB:=Lib.hid hB;have n1:=h1.1;have n2:=h2.1;have HJ0:Hid (GJ w (lCells l oo eo oc ec) 70 62 (.slice none 0 0) [] (w.alloc (.cells (lCells l oo eo oc ec) 70))):=Lib.hid ⟨World.ownsRow_nil _ _ _ _,Bq.new (Below.refl _ _) _ _⟩;obtain ⟨vs,hvl,hvs⟩:=list_of (fun j (v:Value)=>w.cell? ⟨(eo.getD ⟨0,0,none⟩).block,(eo.getD ⟨0,0,none⟩).off+j,none⟩=some v∧∀hj:j < l.esc.length,∃o c,v= .slice o l.esc[j].length c∧Row B o 9 (transAt B w) l.esc[j]) l.esc.length (fun j hj=>by
  obtain ⟨g,off,rfl,hg,o,c,e1,e2⟩:=h2.cell hj;rw [Nat.mul_one] at e1;exact ⟨.slice o l.esc[j].length c,e1,fun _=>⟨o,c,rfl,e2⟩⟩)
 have HVL:=Lib.hid hvl;have HVS:=Lib.hid hvs;have HV1:Hid (∀u ∈ vs,u.oneCell'=true):=Lib.hid (by
  intro u hu;obtain ⟨j,hj,rfl⟩:=List.mem_iff_getElem.1 hu;obtain ⟨o,c,e1,-⟩:=(hvs j hj).2 (by omega);rw [e1];rfl)
 have HEND:Hid (∀v (W:World),GJ w (lCells l oo eo oc ec) 70 62 v ([.slice oo l.out.length oc] ++ vs) W→WaysP w B (l.out :: l.esc) (.returned v) W):=Lib.hid (by
  intro v W hj;refine hj.ways (by simp) (by simp;omega) (by simp [hvl]) (fun i hi hx=> ?_) hB
  match i,hi,hx with
  | 0,_,_=>exact ⟨oo,oc,rfl,h1⟩
  | i+1,hi,hx=>
    have h3:i < vs.length:=by simpa using hx
    have h4:i < l.esc.length:=by simpa using hi
    obtain ⟨o,c,e1,e2⟩:=(hvs i h3).2 h4;exact ⟨o,c,by simpa using e1,by simpa using e2⟩)
 unfold lCells at HJ0 HEND ⊢;clear hi hz0 hz1 hz2 h1 h2 hB hvl hvs;go_enter Tryz.func155,Tryz.ntmps155;go_wp2_with (at_builtin;refine wpList_append_own _ rfl _ _ 68 rfl (w.heap.size+1) 62 i0 (.slice none 0 0) 1 24 Tryz.underlying68 HI.out.1 HI.out.2.1 HI.out.2.2.1 HI.out.2.2.2 rfl (by decide) (.slice none 0 0) 0 [] rfl (HJ0.out.own.alloc _) ⟨w.heap.size+1,0,none⟩ 1 1 [.slice oo l.out.length oc] rfl rfl (by intro j u' hj;match j,hj with | 0,hj=>simp at hj;subst hj;simp [Addr.add] | j+1,hj=>simp at hj) (by intro u hu;simp at hu;subst hu;rfl) (by unfold maxLen;simp) (by simp) (by simp) ?_);intro v1 w1 hown hgrow _;have HJ1:Hid (GJ w #[.slice oo l.out.length oc,.slice eo l.esc.length ec,.bool l.atomic,.bool l.dstep,.bool l.fin,.bool l.accept,.bool l.progress] 70 62 v1 ([] ++ [.slice oo l.out.length oc]) w1):=Lib.hid (HJ0.out.put hgrow hown);have f1:w1.cell? ⟨w.heap.size,1,none⟩=some (.slice eo l.esc.length ec):=HJ1.out.bx.cell rfl;clear hown hgrow;by_cases h0:l.esc.length=0
 · have hvn:vs= []:=List.eq_nil_of_length_eq_zero (by rw [HVL.out];exact h0);subst hvn;rw [h0] at f1;go_wp2_with (at_builtin;refine wpList_append_zero rfl _ _ 68 rfl (w.heap.size+1) 62 i0 1 Tryz.underlying68 HI.out.1 v1 1 [.slice oo l.out.length oc] rfl HJ1.out.own eo ec rfl ?_);go_wp2_with fail;go_ret;exact HEND.out _ _ (by simpa using HJ1.out)
 · obtain ⟨g,off,heo,-⟩:=H2.out.cell (i:=0) (by omega);subst heo;have HN:Hid (∀j u,vs[j]? =some u→w1.cell? ((⟨g,off,none⟩:Addr).add j)=some u):=Lib.hid fun j u hj=>by
    obtain ⟨hj2,rfl⟩:=List.getElem?_eq_some_iff.1 hj;obtain ⟨g',off',e1,hg',-⟩:=H2.out.cell (i:=j) (by have:=HVL.out;omega);injection e1 with e1
    injection e1 with e1 e3
    subst e1;rw [held.add_off,HJ1.out.bx.bel.cell (p:=⟨g,off+j,none⟩) (Nat.lt_of_lt_of_le hg' HBB.out)];exact (HVS.out j hj2).1
   have HLN:Hid (vs.length=l.esc.length*1):=Lib.hid (by rw [HVL.out,Nat.mul_one]);clear h0;go_wp2_with (at_builtin;refine wpList_append_own _ rfl _ _ 68 rfl (w.heap.size+1) 62 i0 (.slice none 0 0) 1 24 Tryz.underlying68 HI.out.1 HI.out.2.1 HI.out.2.2.1 HI.out.2.2.2 rfl (by decide) v1 1 [.slice oo l.out.length oc] rfl HJ1.out.own ⟨g,off,none⟩ l.esc.length ec vs rfl HLN.out HN.out HV1.out (by unfold maxLen;omega) (by omega) (by have:=HJ1.out.base;omega) ?_);intro v2 w2 hown hgrow _;have HJ2:Hid (GJ w #[.slice oo l.out.length oc,.slice (some ⟨g,off,none⟩) l.esc.length ec,.bool l.atomic,.bool l.dstep,.bool l.fin,.bool l.accept,.bool l.progress] 70 62 v2 (([] ++ [.slice oo l.out.length oc]) ++ vs) w2):=Lib.hid (HJ1.out.put0 hgrow (by have e:=HVL.out;simp at hown ⊢;rw [e];exact hown));clear hown hgrow;go_wp2_with fail;go_ret;exact HEND.out _ _ (by simpa using HJ2.out)
end Go.Proofs.YthfldokfnjpkmaaGreatDoor
namespace Go.Proofs.YthfldokfnjpkmaaGreatDoor
open Go.ChangeShapes Go.WideShapes Go.ChangeAt Go.RowKit
def regionOfT (n:Nat):Code→Option Code
 | .region m a b=>if m=n then some (.region m a b) else none
 | .seq a b=>match regionOfT n a with
   | some c=>some c
   | none=>regionOfT n b
 | .loop c=>regionOfT n c
 | .block _ c=>regionOfT n c
 | .scope c=>regionOfT n c
 | .cond _ a b=>match regionOfT n a with
   | some c=>some c
   | none=>regionOfT n b
 | _=>none
noncomputable def reg14:Code:=((Tryz.f108.body.bind (regionOfT 14)).getD .skip)
def headT (n0 n1:Nat) (ds at' qf qc:Bool):Bool:=decide (8 < n1) || (ds && at') || (qf && (decide (0 < n0) || decide (0 < n1))) || (qc && (decide (0 < n1) || at' || ds))
set_option maxRecDepth 100000 in
set_option maxHeartbeats 4000000 in
theorem reg14C (I K F C:Int) (pm pp pl n0 n1:Nat) (oo eo:Option Addr) (oc ec:Nat) (ds at':Bool) (W:World) (q0:W.cell? ⟨pl,0,none⟩=some (.slice oo n0 oc)) (q1:W.cell? ⟨pl,1,none⟩=some (.slice eo n1 ec)) (q2:W.cell? ⟨pl,2,none⟩=some (.bool at')) (q3:W.cell? ⟨pl,3,none⟩=some (.bool ds)) (f6:W.cell? ⟨pp,6,none⟩=some (.int .i64 F)) (c5:W.cell? ⟨pm,5,none⟩=some (.int .i64 C))
 (Q0:Exit→Act→World→Prop) (J:Act→World→Prop) (c0 c3 c4 c6 c7 c10 c11 c12 c13 c14 c15 c16 c17 c18 c19 c20 c21 c22 c23 c24 c25 c26 c27 c28 c29 c30 c31 c32 c33 c34 c35 c36 c37 c38 c39 c40 c41 c42 c43 c44 c45 c46 c47 c48 c49 c50 c51 c52 c53 c54 c55 c56 c57 c58 c59 c60 c61 c62 c63 c64 c65 c66 c67 c68 c69 c70 c71 c72 c73 c74 c75 c76 c77 c78 c79 c80 c81 c82 c83 c84 c85 c86 c87 c88 c89 c90 c91 c92 c93 c94 c95 c96 c97 c98 c99 c100 c101 c102 c103 c104 c105 c106 c107 c108 c109 c110 c111 c112 c113 c114 c115 c116 c117 c118 c119 c120 c121 c122 c123 c124 c125 c126 c127 c128 c129 c130 c131 c132 c133 c134 c135 c136 c137 c138 c139 c140 c141 c142 c143 c144 c145 c146 c147 c148 c149 c150 c151 c152 c153 c154 c155 c156 c157 c158 c159 c160 c161 c162 c163 c164 c165 c166 c167 c168 c169 c170 c171 c172 c173 c174 c175 c176 c177 c178 c179 c180 c181 c182 c183 c184 c185 c186 c187 c188 c189 c190 c191 c192 c193 c194 c195 c196 c197 c198 c199 c200 c201 c202 c203 c204 c205 c206 c207 c208 c209 c210 c211 c212 c213 c214 c215 c216 c217 c218 c219 c220 c221 c222 c223 c224 c225 c226 c227 c228 c229 c230 c231 c232 c233 c234 c235 c236 c237 c238 c239 c240 c241 c242 c243 c244 c245 c246 c247 c248 c249 c250 c251 c252 c253 c254 c255 c256 c257 c258 c259 c260 c261 c262:Value) (HJ:Hid (∀ (b:Bool) (u154 u155 u156 u157 u158 u159 u160 u161 u162 u163 u164 u165 u166 u167 u168 u169 u170 u171 u172 u173 u174 u175 u176 u177 u178 u179 u180 u181 u182 u183 u184 u185 u186 u187 u188 u189 u190 u191 u192 u193 u194 u195 u196 u197 u198 u199 u200 u201 u202:Value),Hid (b=headT n0 n1 ds at' (K == F) (I == C))→J ⟨#[c0,.int .i64 I,.pointer (some ⟨pm,0,none⟩),c3,c4,.pointer (some ⟨pp,0,none⟩),c6,c7,.int .i64 K,.pointer (some ⟨pl,0,none⟩),c10,c11,c12,c13,c14,c15,c16,c17,c18,c19,c20,c21,c22,c23,c24,c25,c26,c27,c28,c29,c30,c31,c32,c33,c34,c35,c36,c37,c38,c39,c40,c41,c42,c43,c44,c45,c46,c47,c48,c49,c50,c51,c52,c53,c54,c55,c56,c57,c58,c59,c60,c61,c62,c63,c64,c65,c66,c67,c68,c69,c70,c71,c72,c73,c74,c75,c76,c77,c78,c79,c80,c81,c82,c83,c84,c85,c86,c87,c88,c89,c90,c91,c92,c93,c94,c95,c96,c97,c98,c99,c100,c101,c102,c103,c104,c105,c106,c107,c108,c109,c110,c111,c112,c113,c114,c115,c116,c117,c118,c119,c120,c121,c122,c123,c124,c125,c126,c127,c128,c129,c130,c131,c132,c133,c134,c135,c136,c137,c138,c139,c140,c141,c142,c143,c144,c145,c146,c147,c148,c149,c150,c151,c152,c153,u154,u155,u156,u157,u158,u159,u160,u161,u162,u163,u164,u165,u166,u167,u168,u169,u170,u171,u172,u173,u174,u175,u176,u177,u178,u179,u180,u181,u182,u183,u184,u185,u186,u187,u188,u189,u190,u191,u192,u193,u194,u195,u196,u197,u198,u199,u200,u201,u202,.bool b,c204,c205,c206,c207,c208,c209,c210,c211,c212,c213,c214,c215,c216,c217,c218,c219,c220,c221,c222,c223,c224,c225,c226,c227,c228,c229,c230,c231,c232,c233,c234,c235,c236,c237,c238,c239,c240,c241,c242,c243,c244,c245,c246,c247,c248,c249,c250,c251,c252,c253,c254,c255,c256,c257,c258,c259,c260,c261,c262],[]⟩ W)):Code.wp Tryz.prog reg14 (Exit.then J Q0) ⟨#[c0,.int .i64 I,.pointer (some ⟨pm,0,none⟩),c3,c4,.pointer (some ⟨pp,0,none⟩),c6,c7,.int .i64 K,.pointer (some ⟨pl,0,none⟩),c10,c11,c12,c13,c14,c15,c16,c17,c18,c19,c20,c21,c22,c23,c24,c25,c26,c27,c28,c29,c30,c31,c32,c33,c34,c35,c36,c37,c38,c39,c40,c41,c42,c43,c44,c45,c46,c47,c48,c49,c50,c51,c52,c53,c54,c55,c56,c57,c58,c59,c60,c61,c62,c63,c64,c65,c66,c67,c68,c69,c70,c71,c72,c73,c74,c75,c76,c77,c78,c79,c80,c81,c82,c83,c84,c85,c86,c87,c88,c89,c90,c91,c92,c93,c94,c95,c96,c97,c98,c99,c100,c101,c102,c103,c104,c105,c106,c107,c108,c109,c110,c111,c112,c113,c114,c115,c116,c117,c118,c119,c120,c121,c122,c123,c124,c125,c126,c127,c128,c129,c130,c131,c132,c133,c134,c135,c136,c137,c138,c139,c140,c141,c142,c143,c144,c145,c146,c147,c148,c149,c150,c151,c152,c153,c154,c155,c156,c157,c158,c159,c160,c161,c162,c163,c164,c165,c166,c167,c168,c169,c170,c171,c172,c173,c174,c175,c176,c177,c178,c179,c180,c181,c182,c183,c184,c185,c186,c187,c188,c189,c190,c191,c192,c193,c194,c195,c196,c197,c198,c199,c200,c201,c202,c203,c204,c205,c206,c207,c208,c209,c210,c211,c212,c213,c214,c215,c216,c217,c218,c219,c220,c221,c222,c223,c224,c225,c226,c227,c228,c229,c230,c231,c232,c233,c234,c235,c236,c237,c238,c239,c240,c241,c242,c243,c244,c245,c246,c247,c248,c249,c250,c251,c252,c253,c254,c255,c256,c257,c258,c259,c260,c261,c262],[]⟩ W:=by
 obtain ⟨qf,hqf⟩:∃q,(K == F)=q:=⟨_,rfl⟩;obtain ⟨qc,hqc⟩:∃q,(I == C)=q:=⟨_,rfl⟩;rw [hqf,hqc] at HJ;refine wp_mono (Q:=Exit.then (Met J) Q0) ?_ (fun e a w h=> ?_)
 · conv=>arg 2;whnf
   cases ds <;> cases at' <;> cases qf <;> cases qc
   all_goals (
    go_wp2_with fail
    all_goals (
     refine Met.intro ?_;exact HJ.out _ _ _ _ _ _ _ _ _ _ _ _ _ _ _ _ _ _ _ _ _ _ _ _ _ _ _ _ _ _ _ _ _ _ _ _ _ _ _ _ _ _ _ _ _ _ _ _ _ _ (Lib.hid (by unfold headT;rw [Bool.eq_iff_iff];simp;try omega))))
 · cases e with
   | normal=>exact h
   | _=>exact h
end Go.Proofs.YthfldokfnjpkmaaGreatDoor
