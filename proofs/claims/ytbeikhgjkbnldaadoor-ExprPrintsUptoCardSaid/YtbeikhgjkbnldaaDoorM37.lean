/- What was stored is read again as long as its place is the same. -/
import Derived.Test.YtbeikhgjkbnldaaDoorM36
import Derived.Deep.Cut
import Derived.Test.YtbeikhgjkbnldaaDoorM30
import Derived.Test.YtbeikhgjkbnldaaDoorM01
import Derived.Lib.ItoaNum
import Derived.Lib.AppendIntMem
namespace Go.Proofs.YtbeikhgjkbnldaaDoor
open Go.ChangeShapes Go.WideShapes Go.ChangeAt Go.RowKit
set_option linter.unusedVariables false

theorem Lens.put {s : StateD} (h : Lens s) (pid slot v : Int) : Lens (putSlot s pid slot v) := by
  unfold putSlot
  split
  · exact ⟨by simpa using h.g, h.c, h.p, h.q, h.f⟩
  · refine ⟨h.g, h.c, by simpa using h.p, h.q, fun x hx => ?_⟩
    obtain ⟨i, hi, rfl⟩ := List.mem_iff_getElem.1 hx
    simp only [List.length_modify] at hi
    rw [List.getElem_modify]
    have h0 := h.f _ (List.getElem_mem hi)
    split
    · simpa [putFrame] using h0
    · exact h0
/-- What Eval tells of a variable, where it tells no error. -/
theorem eval_ok {E : EnvD} {x : Int} (h : (envEval E x).2 = 0) : envE E x = 0 ∧ envEval E x = evE E x := by
  unfold envEval at h ⊢
  by_cases h0 : envE E x = 0
  · exact ⟨h0, by rw [if_neg (by omega)]⟩
  · rw [if_pos h0] at h
    exact absurd h h0
theorem slot_ok {E : EnvD} {k : Nat} {xx : ExprD} (hx : E.m.exprs[k]? = some xx) (h : (envSlot E k).2.2 = 0) : envE E k = 0 ∧ envSlot E k = rslotB E (evE E) xx := by
  unfold envSlot at h ⊢
  by_cases h0 : envE E k = 0
  · refine ⟨h0, ?_⟩
    rw [if_neg (by omega)]
    unfold exprNo
    rw [Int.toNat_natCast, hx]; rfl
  · rw [if_pos h0] at h
    exact absurd h h0
/-- All that a round at a variable says. -/
theorem round_var {E : EnvD} {k : Nat} {xx : ExprD} (v : Int) (hx : E.m.exprs[k]? = some xx) (h : (envEval E k).2 = 0) (h2 : xx.op = 2) :
    ∃ (q : Int) (j : Nat), envSlot E k = (q, (j : Int), 0) ∧ envStore E k v = (setS E q j v, 0) ∧ q < E.s.procs.length ∧ j < (slotsL E q).length ∧
      ((envSlot (withS E (setS E q j v)) k).2.2 = 0 → envSlot (withS E (setS E q j v)) k = (q, (j : Int), 0) → envEval (withS E (setS E q j v)) k = ((slotsL (withS E (setS E q j v)) q).getD j 0, 0)) := by
  obtain ⟨h0, h1⟩ := eval_ok h
  rw [h1] at h
  obtain ⟨hok, -, -⟩ := envE_ok h0
  rw [evE_step hok hx] at h
  have hz : (rslotB E (evE E) xx).2.2 = 0 := by
    apply Classical.byContradiction
    intro hn
    unfold evalB at h
    rw [if_neg (by omega), if_pos h2, if_pos hn] at h
    exact hn h
  have hr := slot_range (ev := evE E) hok (var_facts hok hx h2).1 hz
  obtain ⟨q, sl, er, hq⟩ : ∃ q sl er, rslotB E (evE E) xx = (q, sl, er) := ⟨_, _, _, rfl⟩
  rw [hq] at hr hz
  obtain ⟨hqr, j, hj, hjl⟩ := hr
  dsimp only at hj hz hqr hjl
  subst hj hz
  have hxn : exprNo E k = xx := by unfold exprNo; rw [Int.toNat_natCast, hx]; rfl
  refine ⟨q, j, ?_, ?_, hqr, hjl, fun h3 h4 => ?_⟩
  · unfold envSlot
    rw [if_neg (by omega), hxn, hq]
  · unfold envStore
    rw [if_neg (by omega), hxn, hq, if_neg (by simp)]
  · have hx' : (withS E (setS E q j v)).m.exprs[k]? = some xx := hx
    obtain ⟨h5, h6⟩ := slot_ok hx' h3
    obtain ⟨hok', -, -⟩ := envE_ok h5
    unfold envEval
    rw [if_neg (by omega), evE_step hok' hx']
    unfold evalB
    rw [if_neg (by omega), if_pos h2, ← h6, h4, if_neg (by simp)]
    unfold slotVal
    rw [Int.toNat_natCast]
theorem slots_set {E : EnvD} (q : Int) (j : Nat) (v : Int) (hq : q < E.s.procs.length) : (slotsL (withS E (setS E q j v)) q).length = (slotsL E q).length := by
  unfold slotsL withS setS putSlot
  by_cases hn : q < 0
  · simp only [if_pos hn]
    simp
  · simp only [if_neg hn]
    obtain ⟨i, rfl⟩ : ∃ i : Nat, q = i := ⟨q.toNat, by omega⟩
    have hi : i < E.s.procs.length := by omega
    simp [List.getElem?_modify, List.getElem?_eq_getElem hi, putFrame]
theorem procs_set {E : EnvD} (q : Int) (j : Nat) (v : Int) : (setS E q j v).procs.length = E.s.procs.length := by
  unfold setS putSlot
  split <;> simp
end Go.Proofs.YtbeikhgjkbnldaaDoor
/- Region 10 of ExprBounds: is it a truth? -/
namespace Go.Proofs.YtbeikhgjkbnldaaDoor.exprBounds
open Go.ChangeShapes Go.WideShapes Go.ChangeAt Go.RowKit
set_option linter.unusedVariables false
set_option linter.unusedSimpArgs false

def regionOf (n : Nat) : Code → Option Code
  | .region m a b => if m = n then some (.region m a b) else none
  | .seq a b => match regionOf n a with
    | some c => some c
    | none => regionOf n b
  | .loop c => regionOf n c
  | .block _ c => regionOf n c
  | .scope c => regionOf n c
  | .cond _ a b => match regionOf n a with
    | some c => some c
    | none => regionOf n b
  | _ => none
noncomputable def reg10 : Code := ((Tryd.f4.body.bind (regionOf 10)).getD .skip)

set_option maxRecDepth 100000 in
set_option maxHeartbeats 4000000 in
theorem reg10C (op : Int) (W : World) (Q0 : Exit → Act → World → Prop) (J : Act → World → Prop) (c0 c1 c2 c3 c4 c5 c6 c7 c8 c10 c11 c12 c13 c14 c15 c16 c17 c18 c19 c20 c21 c22 c23 c24 c25 c26 c27 c28 c29 c30 c31 c32 c33 c34 c35 c36 c37 c38 c39 c40 c41 c42 c43 c44 c45 c46 c47 c48 c49 c50 c51 c52 c53 c54 c55 c56 c57 c58 c59 c60 c61 c62 c63 c64 c65 c66 c67 c68 c69 c70 c71 c72 c73 c74 c75 c76 c77 c78 c79 c80 c81 c82 c83 c84 c85 c86 c87 c88 c89 c90 c91 c92 c93 c94 c95 c96 c97 c98 c99 c100 c101 c102 c103 c104 c105 c106 c107 c108 c109 c110 c111 c112 c113 c114 c115 c116 c117 c118 c119 c120 c121 c122 c123 c124 c125 c126 c127 c128 c129 c130 c131 c132 c133 c134 c135 c136 c137 c138 c139 c140 c141 c142 c143 c144 c145 c146 c147 c148 c149 c150 c151 c152 c153 c154 c155 c156 c157 c158 c159 c160 c161 c162 c163 c164 c165 c166 c167 c168 c169 c170 c171 c172 c173 c174 c175 c176 c177 c178 c179 c180 c181 : Value) (HJ : Hid (∀ (b : Bool) (u53 u54 u55 u56 u57 u58 u59 u60 u61 u62 u63 u64 u65 u66 u67 u68 u69 u70 u71 u72 u73 u74 u75 u76 u77 u78 u79 u80 u81 u82 u83 u84 u85 u86 u87 u88 u89 u90 u91 u92 u93 u94 : Value), Hid (b = true → truthOp op) → J ⟨#[c0, c1, c2, c3, c4, c5, c6, c7, c8, .int .i64 op, .bool b, c11, c12, c13, c14, c15, c16, c17, c18, c19, c20, c21, c22, c23, c24, c25, c26, c27, c28, c29, c30, c31, c32, c33, c34, c35, c36, c37, c38, c39, c40, c41, c42, c43, c44, c45, c46, c47, c48, c49, c50, c51, c52, u53, u54, u55, u56, u57, u58, u59, u60, u61, u62, u63, u64, u65, u66, u67, u68, u69, u70, u71, u72, u73, u74, u75, u76, u77, u78, u79, u80, u81, u82, u83, u84, u85, u86, u87, u88, u89, u90, u91, u92, u93, u94, c95, c96, c97, c98, c99, c100, c101, c102, c103, c104, c105, c106, c107, c108, c109, c110, c111, c112, c113, c114, c115, c116, c117, c118, c119, c120, c121, c122, c123, c124, c125, c126, c127, c128, c129, c130, c131, c132, c133, c134, c135, c136, c137, c138, c139, c140, c141, c142, c143, c144, c145, c146, c147, c148, c149, c150, c151, c152, c153, c154, c155, c156, c157, c158, c159, c160, c161, c162, c163, c164, c165, c166, c167, c168, c169, c170, c171, c172, c173, c174, c175, c176, c177, c178, c179, c180, c181], []⟩ W)) : Code.wp Tryd.prog reg10 (Exit.then J Q0) ⟨#[c0, c1, c2, c3, c4, c5, c6, c7, c8, .int .i64 op, c10, c11, c12, c13, c14, c15, c16, c17, c18, c19, c20, c21, c22, c23, c24, c25, c26, c27, c28, c29, c30, c31, c32, c33, c34, c35, c36, c37, c38, c39, c40, c41, c42, c43, c44, c45, c46, c47, c48, c49, c50, c51, c52, c53, c54, c55, c56, c57, c58, c59, c60, c61, c62, c63, c64, c65, c66, c67, c68, c69, c70, c71, c72, c73, c74, c75, c76, c77, c78, c79, c80, c81, c82, c83, c84, c85, c86, c87, c88, c89, c90, c91, c92, c93, c94, c95, c96, c97, c98, c99, c100, c101, c102, c103, c104, c105, c106, c107, c108, c109, c110, c111, c112, c113, c114, c115, c116, c117, c118, c119, c120, c121, c122, c123, c124, c125, c126, c127, c128, c129, c130, c131, c132, c133, c134, c135, c136, c137, c138, c139, c140, c141, c142, c143, c144, c145, c146, c147, c148, c149, c150, c151, c152, c153, c154, c155, c156, c157, c158, c159, c160, c161, c162, c163, c164, c165, c166, c167, c168, c169, c170, c171, c172, c173, c174, c175, c176, c177, c178, c179, c180, c181], []⟩ W := by
  refine wp_mono (Q := Exit.then (Met J) Q0) ?_ (fun e a w h => ?_)
  · conv => arg 2; whnf
    go_wp2_with fail
    all_goals refine Met.intro ?_
    all_goals (try (have h4 : op = 4 := by omega
                    rw [h4] at HJ))
    all_goals (try (rename_i hh; rw [hh] at HJ))
    all_goals exact HJ.out _ _ _ _ _ _ _ _ _ _ _ _ _ _ _ _ _ _ _ _ _ _ _ _ _ _ _ _ _ _ _ _ _ _ _ _ _ _ _ _ _ _ _ (Lib.hid (by intro hb; first | (unfold truthOp; omega) | (simp at hb; unfold truthOp; omega) | (simp at hb; done)))
  · cases e with
    | normal => exact h
    | _ => exact h
end Go.Proofs.YtbeikhgjkbnldaaDoor.exprBounds
/- Layer 14's example, as data, and what it comes to. -/
namespace Go.Proofs.YtbeikhgjkbnldaaDoor

def vNo : VarD := ⟨0, 0, 0, 0, []⟩
def numD (n : Int) : ExprD := ⟨1, n, -1, -1, -1, vNo, [], []⟩
def varD (i : Int) : ExprD := ⟨2, 0, -1, -1, -1, ⟨0, 0, -1, -1, [⟨i, 3, 1⟩]⟩, [], []⟩
def shownM : ModelD := ⟨[(8, false), (8, false), (8, false)], [4, 5, 6], [], [], [⟨ByteArray.empty, 0, [], [], [⟨[], [], false, false, false, false, false⟩], 0, 0, 0, 1, -1⟩], -1,
  [numD 2, varD 0, numD 7, numD 0, ⟨7, 0, 2, 3, -1, vNo, [], []⟩, numD 0, ⟨22, 0, 5, 4, -1, vNo, [], []⟩, numD 3, varD 7]⟩
def shownS : StateD := ⟨[4, 5, 6], [], [], 0, -1, -1⟩
def shownE : EnvD := ⟨shownM, shownS, -1, false, []⟩
theorem shown_may : stateE shownM shownS = 0 := by decide +kernel
theorem shown_1 : envEval shownE 1 = (6, 0) := by decide +kernel
theorem shown_4 : envEval shownE 4 = (0, 48) := by decide +kernel
theorem shown_6 : envEval shownE 6 = (0, 0) := by decide +kernel
theorem shown_8 : envEval shownE 8 = (0, 47) := by decide +kernel
theorem shown_5 : envChan shownE 5 = (0, 49) := by decide +kernel
end Go.Proofs.YtbeikhgjkbnldaaDoor
/- Numbers to a base, as text. -/
namespace Go.Proofs.YtbeikhgjkbnldaaDoor
open Go.ChangeShapes Go.WideShapes Go.ChangeAt Go.RowKit
set_option linter.unusedVariables false

def digB (k : Nat) : UInt8 := if k < 10 then UInt8.ofNat (48 + k) else UInt8.ofNat (87 + k)
/-- The digits, the last one first. -/
def revB (b : Nat) : Nat → Nat → List UInt8
  | 0, _ => []
  | f + 1, u => if u < b then [digB u] else digB (u % b) :: revB b f (u / b)
/-- To a base from 2 on; of a number below 2^64. -/
def baseL (b u : Nat) : List UInt8 := (revB b 64 u).reverse
theorem rev_more {b : Nat} (hb : 2 ≤ b) : ∀ (f g u : Nat), u < 2 ^ f → 0 < f → f ≤ g → revB b f u = revB b g u
  | 0, g, u, h, h0, h2 => by omega
  | f + 1, g, u, h, h0, h2 => by
    obtain ⟨k, rfl⟩ : ∃ k, g = k + 1 := ⟨g - 1, by omega⟩
    unfold revB
    split
    · rfl
    · rename_i hu
      have h3 : u / b < 2 ^ f := by
        rw [Nat.div_lt_iff_lt_mul (by omega)]
        have e : 2 ^ (f + 1) = 2 ^ f * 2 := Nat.pow_succ 2 f
        have := Nat.mul_le_mul_left (2 ^ f) hb
        omega
      have hf : 0 < f := by
        rcases Nat.eq_zero_or_pos f with e | e
        · subst e
          simp at h
          omega
        · exact e
      rw [rev_more hb f k (u / b) h3 hf (by omega)]
theorem base_small {b u : Nat} (h : u < b) : baseL b u = [digB u] := by
  unfold baseL revB
  rw [if_pos h]; rfl
theorem base_step {b u : Nat} (hb : 2 ≤ b) (h : b ≤ u) (hu : u < 18446744073709551616) : baseL b u = baseL b (u / b) ++ [digB (u % b)] := by
  have e : baseL b u = (digB (u % b) :: revB b 63 (u / b)).reverse := by
    unfold baseL
    conv => lhs; unfold revB
    rw [if_neg (by omega)]
  have h3 : u / b < 2 ^ 63 := by
    rw [Nat.div_lt_iff_lt_mul (by omega)]
    have := Nat.mul_le_mul_left (2 ^ 63) hb
    omega
  rw [e, List.reverse_cons, rev_more hb 63 64 (u / b) h3 (by omega) (by omega)]
  rfl
theorem rev_len (b : Nat) : ∀ (f u : Nat), (revB b f u).length ≤ f
  | 0, u => by simp [revB]
  | f + 1, u => by
    unfold revB
    split
    · simp
    · have := rev_len b f (u / b)
      simp; omega
theorem base_len (b u : Nat) : (baseL b u).length ≤ 64 := by
  unfold baseL
  rw [List.length_reverse]
  exact rev_len b 64 u
theorem dec_base : ∀ (u : Nat), u < 18446744073709551616 → Lib.decDigits u = baseL 10 u
  | u, hu => by
    by_cases h : u < 10
    · rw [Lib.decDigits, dif_pos h, base_small h]
      unfold digB
      rw [if_pos h]
    · rw [Lib.decDigits, dif_neg h, base_step (by omega) (by omega) hu, dec_base (u / 10) (by omega)]
      unfold digB
      rw [if_pos (by omega)]
termination_by u => u
decreasing_by omega
theorem cells_app (a b : List UInt8) : Lib.byteCells (a ++ b) = Lib.byteCells a ++ Lib.byteCells b := by simp [Lib.byteCells]
theorem cells_len (a : List UInt8) : (Lib.byteCells a).length = a.length := by simp [Lib.byteCells]
/-- The low 32 bits. -/
def low32 (v : Int) : Nat := (v % 4294967296).toNat
theorem low32_lt (v : Int) : low32 v < 4294967296 := by unfold low32; omega
def isDec (c : Int) : Prop := c = 100 ∨ c = 105 ∨ c = 101
/-- One of the numbers, as the letter has it. -/
def convF (c : UInt8) (v : Int) : List UInt8 :=
  if c = 99 then [UInt8.ofNat (v % 256).toNat] else if c = 120 then baseL 16 (low32 v) else if c = 111 then baseL 8 (low32 v) else if c = 117 then baseL 10 (low32 v) else Lib.itoa v
def isConv (c : UInt8) : Bool := c = 100 || c = 105 || c = 101 || c = 117 || c = 120 || c = 111 || c = 99
def printF : List UInt8 → List Int → List UInt8
  | [], _ => []
  | [c], _ => [c]
  | c :: d :: r, args =>
    if c ≠ 37 then c :: printF (d :: r) args
    else if d = 37 then 37 :: printF r args
    else if isConv d = false then 37 :: d :: printF r args
    else match args with
      | [] => printF r []
      | a :: rest => convF d a ++ printF r rest
theorem itoa_len {v : Int} (h : -9223372036854775808 ≤ v ∧ v ≤ 9223372036854775807) : (Lib.itoa v).length ≤ 65 := by
  unfold Lib.itoa
  split
  · rw [List.length_cons, dec_base _ (by omega)]
    have := base_len 10 v.natAbs
    omega
  · rw [dec_base _ (by omega)]
    have := base_len 10 v.toNat
    omega
theorem conv_len {c : UInt8} {v : Int} (h : -9223372036854775808 ≤ v ∧ v ≤ 9223372036854775807) : (convF c v).length ≤ 65 := by
  unfold convF
  have := itoa_len h
  split
  · simp
  · split
    · have := base_len 16 (low32 v); omega
    · split
      · have := base_len 8 (low32 v); omega
      · split
        · have := base_len 10 (low32 v); omega
        · exact this
end Go.Proofs.YtbeikhgjkbnldaaDoor
