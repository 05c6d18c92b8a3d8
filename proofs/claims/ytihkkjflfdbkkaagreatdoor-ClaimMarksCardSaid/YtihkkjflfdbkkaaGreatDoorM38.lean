/- Region 14 of the document's table: a place's head. -/
import Derived.Test.YtihkkjflfdbkkaaGreatDoorM33
import Derived.Deep.Cut
namespace Go.Proofs.YtihkkjflfdbkkaaGreatDoor
open Go.ChangeShapes Go.WideShapes Go.ChangeAt Go.RowKit
set_option linter.unusedVariables false
set_option linter.unusedSimpArgs false

def regionOfT (n : Nat) : Code → Option Code
  | .region m a b => if m = n then some (.region m a b) else none
  | .seq a b => match regionOfT n a with
    | some c => some c
    | none => regionOfT n b
  | .loop c => regionOfT n c
  | .block _ c => regionOfT n c
  | .scope c => regionOfT n c
  | .cond _ a b => match regionOfT n a with
    | some c => some c
    | none => regionOfT n b
  | _ => none
noncomputable def reg14 : Code := ((Tryz.f61.body.bind (regionOfT 14)).getD .skip)
def headT (n0 n1 : Nat) (ds at' qf qc : Bool) : Bool := decide (8 < n1) || (ds && at') || (qf && (decide (0 < n0) || decide (0 < n1))) || (qc && (decide (0 < n1) || at' || ds))

set_option maxRecDepth 100000 in
set_option maxHeartbeats 4000000 in
theorem reg14C (I K F C : Int) (pm pp pl n0 n1 : Nat) (oo eo : Option Addr) (oc ec : Nat) (ds at' : Bool) (W : World) (q0 : W.cell? ⟨pl, 0, none⟩ = some (.slice oo n0 oc)) (q1 : W.cell? ⟨pl, 1, none⟩ = some (.slice eo n1 ec)) (q2 : W.cell? ⟨pl, 2, none⟩ = some (.bool at')) (q3 : W.cell? ⟨pl, 3, none⟩ = some (.bool ds)) (f6 : W.cell? ⟨pp, 6, none⟩ = some (.int .i64 F)) (c5 : W.cell? ⟨pm, 5, none⟩ = some (.int .i64 C))
    (Q0 : Exit → Act → World → Prop) (J : Act → World → Prop) (c0 c3 c4 c6 c7 c10 c11 c12 c13 c14 c15 c16 c17 c18 c19 c20 c21 c22 c23 c24 c25 c26 c27 c28 c29 c30 c31 c32 c33 c34 c35 c36 c37 c38 c39 c40 c41 c42 c43 c44 c45 c46 c47 c48 c49 c50 c51 c52 c53 c54 c55 c56 c57 c58 c59 c60 c61 c62 c63 c64 c65 c66 c67 c68 c69 c70 c71 c72 c73 c74 c75 c76 c77 c78 c79 c80 c81 c82 c83 c84 c85 c86 c87 c88 c89 c90 c91 c92 c93 c94 c95 c96 c97 c98 c99 c100 c101 c102 c103 c104 c105 c106 c107 c108 c109 c110 c111 c112 c113 c114 c115 c116 c117 c118 c119 c120 c121 c122 c123 c124 c125 c126 c127 c128 c129 c130 c131 c132 c133 c134 c135 c136 c137 c138 c139 c140 c141 c142 c143 c144 c145 c146 c147 c148 c149 c150 c151 c152 c153 c154 c155 c156 c157 c158 c159 c160 c161 c162 c163 c164 c165 c166 c167 c168 c169 c170 c171 c172 c173 c174 c175 c176 c177 c178 c179 c180 c181 c182 c183 c184 c185 c186 c187 c188 c189 c190 c191 c192 c193 c194 c195 c196 c197 c198 c199 c200 c201 c202 c203 c204 c205 c206 c207 c208 c209 c210 c211 c212 c213 c214 c215 c216 c217 c218 c219 c220 c221 c222 c223 c224 c225 c226 c227 c228 c229 c230 c231 c232 c233 c234 c235 c236 c237 c238 c239 c240 c241 c242 c243 c244 c245 c246 c247 c248 c249 c250 c251 c252 c253 c254 c255 c256 c257 c258 c259 c260 c261 c262 : Value) (HJ : Hid (∀ (b : Bool) (u154 u155 u156 u157 u158 u159 u160 u161 u162 u163 u164 u165 u166 u167 u168 u169 u170 u171 u172 u173 u174 u175 u176 u177 u178 u179 u180 u181 u182 u183 u184 u185 u186 u187 u188 u189 u190 u191 u192 u193 u194 u195 u196 u197 u198 u199 u200 u201 u202 : Value), Hid (b = headT n0 n1 ds at' (K == F) (I == C)) → J ⟨#[c0, .int .i64 I, .pointer (some ⟨pm, 0, none⟩), c3, c4, .pointer (some ⟨pp, 0, none⟩), c6, c7, .int .i64 K, .pointer (some ⟨pl, 0, none⟩), c10, c11, c12, c13, c14, c15, c16, c17, c18, c19, c20, c21, c22, c23, c24, c25, c26, c27, c28, c29, c30, c31, c32, c33, c34, c35, c36, c37, c38, c39, c40, c41, c42, c43, c44, c45, c46, c47, c48, c49, c50, c51, c52, c53, c54, c55, c56, c57, c58, c59, c60, c61, c62, c63, c64, c65, c66, c67, c68, c69, c70, c71, c72, c73, c74, c75, c76, c77, c78, c79, c80, c81, c82, c83, c84, c85, c86, c87, c88, c89, c90, c91, c92, c93, c94, c95, c96, c97, c98, c99, c100, c101, c102, c103, c104, c105, c106, c107, c108, c109, c110, c111, c112, c113, c114, c115, c116, c117, c118, c119, c120, c121, c122, c123, c124, c125, c126, c127, c128, c129, c130, c131, c132, c133, c134, c135, c136, c137, c138, c139, c140, c141, c142, c143, c144, c145, c146, c147, c148, c149, c150, c151, c152, c153, u154, u155, u156, u157, u158, u159, u160, u161, u162, u163, u164, u165, u166, u167, u168, u169, u170, u171, u172, u173, u174, u175, u176, u177, u178, u179, u180, u181, u182, u183, u184, u185, u186, u187, u188, u189, u190, u191, u192, u193, u194, u195, u196, u197, u198, u199, u200, u201, u202, .bool b, c204, c205, c206, c207, c208, c209, c210, c211, c212, c213, c214, c215, c216, c217, c218, c219, c220, c221, c222, c223, c224, c225, c226, c227, c228, c229, c230, c231, c232, c233, c234, c235, c236, c237, c238, c239, c240, c241, c242, c243, c244, c245, c246, c247, c248, c249, c250, c251, c252, c253, c254, c255, c256, c257, c258, c259, c260, c261, c262], []⟩ W)) : Code.wp Tryz.prog reg14 (Exit.then J Q0) ⟨#[c0, .int .i64 I, .pointer (some ⟨pm, 0, none⟩), c3, c4, .pointer (some ⟨pp, 0, none⟩), c6, c7, .int .i64 K, .pointer (some ⟨pl, 0, none⟩), c10, c11, c12, c13, c14, c15, c16, c17, c18, c19, c20, c21, c22, c23, c24, c25, c26, c27, c28, c29, c30, c31, c32, c33, c34, c35, c36, c37, c38, c39, c40, c41, c42, c43, c44, c45, c46, c47, c48, c49, c50, c51, c52, c53, c54, c55, c56, c57, c58, c59, c60, c61, c62, c63, c64, c65, c66, c67, c68, c69, c70, c71, c72, c73, c74, c75, c76, c77, c78, c79, c80, c81, c82, c83, c84, c85, c86, c87, c88, c89, c90, c91, c92, c93, c94, c95, c96, c97, c98, c99, c100, c101, c102, c103, c104, c105, c106, c107, c108, c109, c110, c111, c112, c113, c114, c115, c116, c117, c118, c119, c120, c121, c122, c123, c124, c125, c126, c127, c128, c129, c130, c131, c132, c133, c134, c135, c136, c137, c138, c139, c140, c141, c142, c143, c144, c145, c146, c147, c148, c149, c150, c151, c152, c153, c154, c155, c156, c157, c158, c159, c160, c161, c162, c163, c164, c165, c166, c167, c168, c169, c170, c171, c172, c173, c174, c175, c176, c177, c178, c179, c180, c181, c182, c183, c184, c185, c186, c187, c188, c189, c190, c191, c192, c193, c194, c195, c196, c197, c198, c199, c200, c201, c202, c203, c204, c205, c206, c207, c208, c209, c210, c211, c212, c213, c214, c215, c216, c217, c218, c219, c220, c221, c222, c223, c224, c225, c226, c227, c228, c229, c230, c231, c232, c233, c234, c235, c236, c237, c238, c239, c240, c241, c242, c243, c244, c245, c246, c247, c248, c249, c250, c251, c252, c253, c254, c255, c256, c257, c258, c259, c260, c261, c262], []⟩ W := by
  obtain ⟨qf, hqf⟩ : ∃ q, (K == F) = q := ⟨_, rfl⟩
  obtain ⟨qc, hqc⟩ : ∃ q, (I == C) = q := ⟨_, rfl⟩
  rw [hqf, hqc] at HJ
  refine wp_mono (Q := Exit.then (Met J) Q0) ?_ (fun e a w h => ?_)
  · conv => arg 2; whnf
    cases ds <;> cases at' <;> cases qf <;> cases qc
    all_goals (
      go_wp2_with fail
      all_goals (
        refine Met.intro ?_
        exact HJ.out _ _ _ _ _ _ _ _ _ _ _ _ _ _ _ _ _ _ _ _ _ _ _ _ _ _ _ _ _ _ _ _ _ _ _ _ _ _ _ _ _ _ _ _ _ _ _ _ _ _ (Lib.hid (by unfold headT; rw [Bool.eq_iff_iff]; simp; try omega))))
  · cases e with
    | normal => exact h
    | _ => exact h
end Go.Proofs.YtihkkjflfdbkkaaGreatDoor
