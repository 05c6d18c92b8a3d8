/- The lexer in plain words: blanks, and the token with which a text begins. No program is spoken of here. -/
import Derived.RowKit
import Derived.Test.YtojneaffoekpnaaRows
import Derived.WalkKit
import Derived.ProofKit
import Derived.Below
import Derived.Outline
import Derived.Lib.Hide
import Derived.ScopeJumps
import Derived.WalkMore
import Derived.WalkLawsBesides
import Derived.Scope
import Derived.Shelf.Small.Strs
namespace Go.Proofs.Ytojneaffoekpnaa.lx
set_option linter.unusedVariables false
set_option linter.unusedSimpArgs false

def isL (c : Nat) : Bool := c == 95 || (97 ≤ c && c ≤ 122) || (65 ≤ c && c ≤ 90)
def isD (c : Nat) : Bool := 48 ≤ c && c ≤ 57

/-- How many bytes a text's first run has. -/
def run (p : Nat → Bool) (u : List UInt8) : Nat := (u.takeWhile fun c => p c.toNat).length

theorem run_le (p : Nat → Bool) (u : List UInt8) : run p u ≤ u.length := by
  unfold run; exact (List.takeWhile_sublist _).length_le

theorem run_eq (p : Nat → Bool) (u : List UInt8) (k : Nat) (hk : k ≤ u.length) (h : ∀ i (hi : i < u.length), i < k → p u[i].toNat = true) (he : ∀ hk' : k < u.length, p u[k].toNat = false) : run p u = k := by
  induction u generalizing k with
  | nil => simp at hk; subst hk; rfl
  | cons c u ih =>
    cases k with
    | zero =>
      have := he (by simp)
      simp at this
      simp [run, List.takeWhile, this]
    | succ k =>
      have h0 := h 0 (by simp) (by omega)
      simp at h0
      have := ih k (by simpa using hk) (fun i hi hik => by have := h (i + 1) (by simp; omega) (by omega); simpa using this) (fun hk' => by have := he (by simp; omega); simpa using this)
      simp only [run, List.takeWhile, h0, List.length_cons] at *
      omega

/-- The value of a row of digits, and what is left of it by a bound. -/
def val : List UInt8 → Nat → Nat
  | [], v => v
  | c :: u, v => val u (10 * v + (c.toNat - 48))

def cap (M : Nat) : List UInt8 → Nat → Nat
  | [], v => v
  | c :: u, v => cap M u (min (10 * v + (c.toNat - 48)) M)

theorem cap_snoc (M : Nat) (u : List UInt8) (c : UInt8) : ∀ v, cap M (u ++ [c]) v = min (10 * cap M u v + (c.toNat - 48)) M := by
  induction u with
  | nil => intro v; rfl
  | cons x u ih => intro v; exact ih _

theorem cap_val (M : Nat) (hM : 1 ≤ M) (u : List UInt8) : ∀ v w, v = min w M → cap M u v = min (val u w) M := by
  induction u with
  | nil => intro v w h; exact h
  | cons c u ih =>
    intro v w h
    refine ih _ _ ?_
    rw [h]
    omega

/-- How many bytes a quoted text has behind its first quote, with its last one. -/
def quot : List UInt8 → Option Nat
  | [] => none
  | [c] => if c.toNat = 34 then some 1 else none
  | c :: d :: u => if c.toNat = 34 then some 1 else if c.toNat = 10 then none else if c.toNat = 92 then (if d.toNat = 10 then none else (quot u).map (· + 2)) else (quot (d :: u)).map (· + 1)

theorem quot_step (c : UInt8) (u : List UInt8) : quot (c :: u) = if c.toNat = 34 then some 1 else if c.toNat = 10 then none else if c.toNat = 92 then (match u with | [] => none | d :: u' => if d.toNat = 10 then none else (quot u').map (· + 2)) else (quot u).map (· + 1) := by
  cases u with
  | nil => simp [quot]
  | cons d u => rw [quot]

/-- A number that is written as a byte: its value, and how many bytes it takes. -/
def byteNum : List UInt8 → Option (Nat × Nat)
  | _ :: a :: b :: u =>
    if a.toNat = 39 ∨ a.toNat = 10 then none else
    if a.toNat = 92 then
      (match u with
       | [] => none
       | d :: _ => if d.toNat ≠ 39 then none else
         if b.toNat = 110 then some (10, 4) else if b.toNat = 116 then some (9, 4) else if b.toNat = 48 then some (0, 4) else if b.toNat = 92 then some (92, 4) else if b.toNat = 39 then some (39, 4) else none)
    else if b.toNat = 39 then some (a.toNat, 3) else none
  | _ => none

/-- Marks of two bytes, and of one. -/
def long2 (a b : Nat) : Bool :=
  (a == 33 && b == 33) || (a == 63 && b == 63) || (a == 45 && b == 62) || (a == 58 && b == 58) || (a == 43 && b == 43) || (a == 45 && b == 45) || (a == 60 && b == 60) || (a == 62 && b == 62) ||
  (a == 60 && b == 61) || (a == 62 && b == 61) || (a == 61 && b == 61) || (a == 33 && b == 61) || (a == 38 && b == 38) || (a == 124 && b == 124) || (a == 46 && b == 46)
def short1 (a : Nat) : Bool := [33, 63, 60, 62, 61, 43, 45, 42, 47, 37, 38, 124, 94, 126, 40, 41, 91, 93, 123, 125, 44, 59, 58, 46, 64, 35].contains a

/-- Two bytes stand at the head. -/
def heads (a b : Nat) : List UInt8 → Bool
  | c :: d :: _ => c.toNat == a && d.toNat == b
  | _ => false

/-- Where two bytes stand first. -/
def find2 (a b : Nat) : List UInt8 → Option Nat
  | [] => none
  | c :: u => if heads a b (c :: u) then some 0 else (find2 a b u).map (· + 1)

/-- A blank at the head: how many bytes, how many lines; none: a comment without an end. -/
def blank (u : List UInt8) : Option (Nat × Nat) :=
  match u with
  | [] => some (0, 0)
  | c :: _ =>
    if c.toNat = 10 then some (1, 1) else if c.toNat = 32 ∨ c.toNat = 9 ∨ c.toNat = 12 ∨ c.toNat = 13 then some (1, 0) else
    if heads 92 10 u then some (2, 0) else
    if heads 47 42 u then (find2 42 47 (u.drop 2)).map fun k => (k + 4, 0) else
    if heads 47 47 u then some (run (fun c => c != 10) u, 0) else some (0, 0)

end Go.Proofs.Ytojneaffoekpnaa.lx
namespace Go.Proofs.Ytojneaffoekpnaa.lx
set_option linter.unusedVariables false
set_option linter.unusedSimpArgs false
open Go.ChangeShapes Go.WideShapes Go.ChangeAt Go.RowKit

theorem ret_bool {a b : Bool} (h : a = b) : Ending.returned (.bool a) = .returned (.bool b) := by rw [h]
theorem ret_int {k : IntKind} {a b : Int} (h : a = b) : Ending.returned (.int k a) = .returned (.int k b) := by rw [h]

theorem letter_any (c : Nat) (w : World) : Calls Try.prog 36 #[.int .u8 (c : Int)] w fun e w' => e = .returned (.bool (isL c)) ∧ w' = w := by
  go_enter Try.func36, Try.ntmps36
  go_wp2
  all_goals (go_ret; refine ⟨ret_bool ?_, rfl⟩)
  all_goals (rw [Bool.eq_iff_iff]; simp [isL]; omega)
theorem digit_any (c : Nat) (w : World) : Calls Try.prog 37 #[.int .u8 (c : Int)] w fun e w' => e = .returned (.bool (isD c)) ∧ w' = w := by
  go_enter Try.func37, Try.ntmps37
  go_wp2
  all_goals (go_ret; refine ⟨ret_bool ?_, rfl⟩)
  all_goals (rw [Bool.eq_iff_iff]; simp [isD]; omega)
end Go.Proofs.Ytojneaffoekpnaa.lx
namespace Go.Proofs.Ytojneaffoekpnaa.lx
set_option linter.unusedVariables false
set_option linter.unusedSimpArgs false
open Go
section
variable {P : Program} {a : Act} {w : World} {Q : Exit → Act → World → Prop}

theorem wp_scope_ghost {c rest : Code} (l : Nat) (J : Nat → Act → World → Prop) (hf : findLabel c l = some rest)
    (first : c.wp P (Exit.jump l (fun a w => ∃ m, J m a w) Q) a w)
    (pass : ∀ m a w, J m a w → rest.wp P (Exit.jump l (fun a' w' => ∃ m', m' < m ∧ J m' a' w') Q) a w) : (Code.scope c).wp P Q a w := by
  intro b k cs
  have hg : gotoIn l (.inScope c :: k) = some (.code rest :: .inScope c :: k) := by simp [gotoIn, hf]
  have key : ∀ m a w, J m a w → ∃ e a' w', Q e a' w' ∧ Arrives P (lone (b.at a (.code rest :: .inScope c :: k)) cs w) b k cs e a' w' := by
    intro m
    induction m using Nat.strongRecOn with
    | _ m ih =>
      intro a w hJ
      obtain ⟨e, a₁, w₁, hq, harr⟩ := pass m a w hJ b (.inScope c :: k) cs
      cases e with
      | normal => exact ⟨.normal, a₁, w₁, hq, Steps.trans harr (.one step_inScope)⟩
      | exit id => exact ⟨.exit id, a₁, w₁, hq, fun k' hk => harr k' (by simp [exitTo, hk])⟩
      | goto l' =>
        obtain ⟨rfl, m', hlt, hJ'⟩ := hq
        obtain ⟨e₂, a₂, w₂, hq₂, harr₂⟩ := ih m' hlt a₁ w₁ hJ'
        exact ⟨e₂, a₂, w₂, hq₂, .of_steps (harr _ hg) harr₂⟩
      | ret => exact ⟨_, a₁, w₁, hq, harr⟩
      | panic ch => exact ⟨_, a₁, w₁, hq, harr⟩
      | outgrown => exact ⟨_, a₁, w₁, hq, harr⟩
  obtain ⟨e, a₁, w₁, hq, harr⟩ := first b (.inScope c :: k) cs
  cases e with
  | normal => exact ⟨.normal, a₁, w₁, hq, .head step_scope (Steps.trans harr (.one step_inScope))⟩
  | exit id => exact ⟨.exit id, a₁, w₁, hq, fun k' hk => .head step_scope (harr k' (by simp [exitTo, hk]))⟩
  | goto l' =>
    obtain ⟨rfl, m, hJ'⟩ := hq
    obtain ⟨e₂, a₂, w₂, hq₂, harr₂⟩ := key m a₁ w₁ hJ'
    exact ⟨e₂, a₂, w₂, hq₂, .of_steps (.head step_scope (harr _ hg)) harr₂⟩
  | ret => exact ⟨_, a₁, w₁, hq, .of_steps (.one step_scope) harr⟩
  | panic ch => exact ⟨_, a₁, w₁, hq, .of_steps (.one step_scope) harr⟩
  | outgrown => exact ⟨_, a₁, w₁, hq, .of_steps (.one step_scope) harr⟩
end
end Go.Proofs.Ytojneaffoekpnaa.lx
namespace Go.Proofs.Ytojneaffoekpnaa.lx
set_option linter.unusedVariables false
set_option linter.unusedSimpArgs false
open Go.ChangeShapes Go.WideShapes Go.ChangeAt Go.RowKit

def isLD (c : Nat) : Bool := isL c || isD c

/-- Byte i of a text. -/
def byt (u : ByteArray) (i : Nat) : Nat := (u.data.toList.getD i 0).toNat
theorem byt_at (u : ByteArray) (i : Nat) (h : i < u.size) : u[i].toNat = byt u i := by
  unfold byt
  have h' : i < u.data.toList.length := by simpa using h
  rw [List.getD_eq_getElem?_getD, List.getElem?_eq_getElem h']
  rfl
theorem byt_get (u : ByteArray) (i : Nat) (h : i < u.data.toList.length) : u.data.toList[i].toNat = byt u i := by
  unfold byt; rw [List.getD_eq_getElem?_getD, List.getElem?_eq_getElem h]; rfl

def zeroTok : Value := .agg #[.int .i64 0, .int .i64 0, .int .i64 0, .string ⟨#[]⟩, .int .i64 0]
def Tok (kind at' line : Int) (text : ByteArray) (n : Int) : Value := .agg #[.int .i64 kind, .int .i64 at', .int .i64 line, .string text, .int .i64 n]

end Go.Proofs.Ytojneaffoekpnaa.lx
namespace Go.Proofs.Ytojneaffoekpnaa.lx
set_option linter.unusedVariables false
set_option linter.unusedSimpArgs false
open Go.ChangeShapes Go.WideShapes Go.ChangeAt Go.RowKit

theorem take_snoc (s : ByteArray) (k : Nat) (h : k < s.size) : s.data.toList.take (k + 1) = s.data.toList.take k ++ [s[k]] := by
  rw [List.take_succ_eq_append_getElem (by simpa using h)]; rfl
theorem cap_le (M : Nat) (u : List UInt8) : ∀ v, v ≤ M → cap M u v ≤ M := by
  induction u with
  | nil => intro v h; exact h
  | cons c u ih => intro v _; exact ih _ (by omega)

end Go.Proofs.Ytojneaffoekpnaa.lx
namespace Go.Proofs.Ytojneaffoekpnaa.lx
set_option linter.unusedVariables false
set_option linter.unusedSimpArgs false
open Go

/-- As Q; by a goto to a label of the scope c: what stands behind the label comes to Q, by at most n further jumps. -/
def Goes (P : Program) (c : Code) (Q : Exit → Act → World → Prop) : Nat → Exit → Act → World → Prop
  | 0, e, a, w => Exit.noGoto Q e a w
  | n + 1, .goto l, a, w => ∃ rest, findLabel c l = some rest ∧ rest.wp P (Goes P c Q n) a w
  | _ + 1, e, a, w => Q e a w

section
variable {P : Program} {a : Act} {w : World} {Q : Exit → Act → World → Prop}

theorem goes_goto {c rest : Code} {n l : Nat} (hf : findLabel c l = some rest) (h : rest.wp P (Goes P c Q n) a w) : Goes P c Q (n + 1) (.goto l) a w := ⟨rest, hf, h⟩
theorem goes_ret {c : Code} {n : Nat} (h : Q .ret a w) : Goes P c Q n .ret a w := by cases n <;> exact h
theorem goes_normal {c : Code} {n : Nat} (h : Q .normal a w) : Goes P c Q n .normal a w := by cases n <;> exact h
theorem goes_exit {c : Code} {n i : Nat} (h : Q (.exit i) a w) : Goes P c Q n (.exit i) a w := by cases n <;> exact h

theorem scope_core {c : Code} : ∀ (n : Nat) (d : Code) (a : Act) (w : World), d.wp P (Goes P c Q n) a w → ∀ (b : Frame) (k : List Item) (cs : List Frame),
    ∃ e a' w', Q e a' w' ∧ Arrives P (lone (b.at a (.code d :: .inScope c :: k)) cs w) b k cs e a' w' := by
  intro n
  induction n with
  | zero =>
    intro d a w h b k cs
    obtain ⟨e, a₁, w₁, hq, harr⟩ := h b (.inScope c :: k) cs
    cases e with
    | normal => exact ⟨.normal, a₁, w₁, hq, Steps.trans harr (.one step_inScope)⟩
    | exit id => exact ⟨.exit id, a₁, w₁, hq, fun k' hk => harr k' (by simp [exitTo, hk])⟩
    | goto l => exact hq.elim
    | ret => exact ⟨_, a₁, w₁, hq, harr⟩
    | panic ch => exact ⟨_, a₁, w₁, hq, harr⟩
    | outgrown => exact ⟨_, a₁, w₁, hq, harr⟩
  | succ n ih =>
    intro d a w h b k cs
    obtain ⟨e, a₁, w₁, hq, harr⟩ := h b (.inScope c :: k) cs
    cases e with
    | normal => exact ⟨.normal, a₁, w₁, hq, Steps.trans harr (.one step_inScope)⟩
    | exit id => exact ⟨.exit id, a₁, w₁, hq, fun k' hk => harr k' (by simp [exitTo, hk])⟩
    | goto l =>
      obtain ⟨rest, hf, hr⟩ := hq
      obtain ⟨e₂, a₂, w₂, hq₂, harr₂⟩ := ih rest a₁ w₁ hr b k cs
      have hg : gotoIn l (.inScope c :: k) = some (.code rest :: .inScope c :: k) := by simp [gotoIn, hf]
      exact ⟨e₂, a₂, w₂, hq₂, .of_steps (harr _ hg) harr₂⟩
    | ret => exact ⟨_, a₁, w₁, hq, harr⟩
    | panic ch => exact ⟨_, a₁, w₁, hq, harr⟩
    | outgrown => exact ⟨_, a₁, w₁, hq, harr⟩

theorem wp_scope_goes (n : Nat) {c : Code} (h : c.wp P (Goes P c Q n) a w) : (Code.scope c).wp P Q a w := by
  intro b k cs
  obtain ⟨e, a₁, w₁, hq, harr⟩ := scope_core n c a w h b k cs
  cases e with
  | normal => exact ⟨.normal, a₁, w₁, hq, .head step_scope harr⟩
  | exit id => exact ⟨.exit id, a₁, w₁, hq, fun k' hk => .head step_scope (harr k' hk)⟩
  | goto l => exact ⟨.goto l, a₁, w₁, hq, fun k' hk => .head step_scope (harr k' hk)⟩
  | ret => exact ⟨_, a₁, w₁, hq, .of_steps (.one step_scope) harr⟩
  | panic ch => exact ⟨_, a₁, w₁, hq, .of_steps (.one step_scope) harr⟩
  | outgrown => exact ⟨_, a₁, w₁, hq, .of_steps (.one step_scope) harr⟩
end
end Go.Proofs.Ytojneaffoekpnaa.lx
namespace Go.Proofs.Ytojneaffoekpnaa.lx
set_option linter.unusedVariables false
set_option linter.unusedSimpArgs false
open Go.ChangeShapes Go.WideShapes Go.ChangeAt Go.RowKit

def esc (b : Nat) : Option Nat := if b = 110 then some 10 else if b = 116 then some 9 else if b = 48 then some 0 else if b = 92 then some 92 else if b = 39 then some 39 else none
/-- A number that is written as a byte: its value, and how many bytes it takes. -/
def byteB (u : ByteArray) : Option (Nat × Nat) :=
  if u.size < 3 then none else if byt u 1 = 39 ∨ byt u 1 = 10 then none else
  if byt u 1 = 92 then (if u.size < 4 then none else if byt u 3 = 39 then (esc (byt u 2)).map (fun v => (v, 4)) else none)
  else if byt u 2 = 39 then some (byt u 1, 3) else none
def byteR (u : ByteArray) (x : Option (Nat × Nat)) : Value := match x with
  | none => .tuple #[zeroTok, .int .i64 0, .int .i64 3]
  | some (v, n) => .tuple #[Tok 2 0 0 (u.extract 0 n) v, .int .i64 n, .int .i64 0]
theorem byt_lt (u : ByteArray) (i : Nat) : byt u i < 256 := UInt8.toNat_lt _
end Go.Proofs.Ytojneaffoekpnaa.lx
namespace Go.Proofs.Ytojneaffoekpnaa.lx
set_option linter.unusedVariables false
set_option linter.unusedSimpArgs false
open Go.ChangeShapes Go.WideShapes Go.ChangeAt Go.RowKit

/-- How many bytes a quoted text has from a place on, with its last quote. -/
def quotAt (u : ByteArray) (k : Nat) : Option Nat := quot (u.data.toList.drop k)

theorem drop_at (u : ByteArray) (k : Nat) (h : k < u.size) : ∃ c : UInt8, c.toNat = byt u k ∧ u.data.toList.drop k = c :: u.data.toList.drop (k + 1) := by
  have h' : k < u.data.toList.length := by simpa using h
  exact ⟨u.data.toList[k], byt_get u k h', List.drop_eq_getElem_cons h'⟩
theorem quotAt_end (u : ByteArray) (k : Nat) (h : u.size ≤ k) : quotAt u k = none := by
  unfold quotAt; rw [List.drop_eq_nil_of_le (by simpa using h)]; rfl
theorem quotAt_34 (u : ByteArray) (k : Nat) (h : k < u.size) (hc : byt u k = 34) : quotAt u k = some 1 := by
  obtain ⟨c, e, hd⟩ := drop_at u k h
  unfold quotAt; rw [hd, quot_step, if_pos (by omega)]
theorem quotAt_10 (u : ByteArray) (k : Nat) (h : k < u.size) (hc : byt u k = 10) : quotAt u k = none := by
  obtain ⟨c, e, hd⟩ := drop_at u k h
  unfold quotAt; rw [hd, quot_step, if_neg (by omega), if_pos (by omega)]
theorem quotAt_92_end (u : ByteArray) (k : Nat) (h : k < u.size) (hc : byt u k = 92) (h2 : u.size ≤ k + 1) : quotAt u k = none := by
  obtain ⟨c, e, hd⟩ := drop_at u k h
  unfold quotAt; rw [hd, quot_step, if_neg (by omega), if_neg (by omega), if_pos (by omega), List.drop_eq_nil_of_le (by simpa using h2)]
theorem quotAt_92_10 (u : ByteArray) (k : Nat) (h : k < u.size) (hc : byt u k = 92) (h2 : k + 1 < u.size) (hd2 : byt u (k + 1) = 10) : quotAt u k = none := by
  obtain ⟨c, e, hd⟩ := drop_at u k h
  obtain ⟨d, e2, hd'⟩ := drop_at u (k + 1) h2
  unfold quotAt; rw [hd, quot_step, if_neg (by omega), if_neg (by omega), if_pos (by omega), hd']
  simp only
  rw [if_pos (by omega)]
theorem quotAt_92 (u : ByteArray) (k : Nat) (h : k < u.size) (hc : byt u k = 92) (h2 : k + 1 < u.size) (hd2 : ¬ byt u (k + 1) = 10) : quotAt u k = (quotAt u (k + 2)).map (· + 2) := by
  obtain ⟨c, e, hd⟩ := drop_at u k h
  obtain ⟨d, e2, hd'⟩ := drop_at u (k + 1) h2
  unfold quotAt; rw [hd, quot_step, if_neg (by omega), if_neg (by omega), if_pos (by omega), hd']
  simp only
  rw [if_neg (by omega)]
theorem quotAt_else (u : ByteArray) (k : Nat) (h : k < u.size) (n1 : ¬ byt u k = 34) (n2 : ¬ byt u k = 10) (n3 : ¬ byt u k = 92) : quotAt u k = (quotAt u (k + 1)).map (· + 1) := by
  obtain ⟨c, e, hd⟩ := drop_at u k h
  unfold quotAt; rw [hd, quot_step, if_neg (by omega), if_neg (by omega), if_neg (by omega)]
theorem quot_go1 (u : ByteArray) (k : Nat) (hk : 1 ≤ k) (h : quotAt u 1 = (quotAt u k).map (· + (k - 1))) (hs : quotAt u k = (quotAt u (k + 1)).map (· + 1)) : quotAt u 1 = (quotAt u (k + 1)).map (· + (k + 1 - 1)) := by
  rw [h, hs]
  cases quotAt u (k + 1) with
  | none => rfl
  | some q => simp; omega
theorem quot_go2 (u : ByteArray) (k : Nat) (hk : 1 ≤ k) (h : quotAt u 1 = (quotAt u k).map (· + (k - 1))) (hs : quotAt u k = (quotAt u (k + 2)).map (· + 2)) : quotAt u 1 = (quotAt u (k + 2)).map (· + (k + 2 - 1)) := by
  rw [h, hs]
  cases quotAt u (k + 2) with
  | none => rfl
  | some q => simp; omega

def textR (u : ByteArray) (x : Option Nat) : Value := match x with
  | none => .tuple #[zeroTok, .int .i64 0, .int .i64 3]
  | some k => if 201 < k then .tuple #[zeroTok, .int .i64 0, .int .i64 5] else .tuple #[Tok 3 0 0 (u.extract 1 k) 0, .int .i64 ((k : Int) + 1), .int .i64 0]

theorem slice_1 (u : ByteArray) (k : Nat) (h1 : 1 ≤ k) (h2 : k ≤ u.size) (w : World) : (Instr.slice 9 (.string u) (some (.int .i64 1)) (some (.int .i64 (k : Int))) none).run Try.prog w = .ok (.string (u.extract 1 k)) w := by
  have := run_slice_string (P := Try.prog) (w := w) 9 u .i64 .i64 1 (k : Int) Try.underlying9 (by omega) (by omega) (by omega)
  simpa using this

end Go.Proofs.Ytojneaffoekpnaa.lx
namespace Go.Proofs.Ytojneaffoekpnaa.lx
set_option linter.unusedVariables false
set_option linter.unusedSimpArgs false
open Go.ChangeShapes Go.WideShapes Go.ChangeAt Go.RowKit

/-- Where a text of two bytes stands first. -/
def idxO (a b : Nat) : List UInt8 → Option Nat
  | [] => none
  | [_] => none
  | c :: d :: l => if c.toNat = a ∧ d.toNat = b then some 0 else (idxO a b (d :: l)).map (· + 1)

theorem index_idxO (a b : UInt8) : ∀ l : List UInt8, Lib.index l [a, b] = match idxO a.toNat b.toNat l with | none => -1 | some i => (i : Int) := by
  intro l
  induction l with
  | nil => rfl
  | cons c l ih =>
    cases l with
    | nil => simp [Lib.index, idxO, List.isPrefixOf]
    | cons d l =>
      rw [Lib.index, ih, idxO]
      by_cases h : c.toNat = a.toNat ∧ d.toNat = b.toNat
      · have h1 : a = c := UInt8.toNat_inj.1 h.1.symm
        have h2 : b = d := UInt8.toNat_inj.1 h.2.symm
        simp [h, h1, h2, List.isPrefixOf]
      · have hp : [a, b].isPrefixOf (c :: d :: l) = false := by
          simp [List.isPrefixOf]
          intro e1 e2
          exact h ⟨by rw [e1], by rw [e2]⟩
        rw [hp, if_neg h]
        cases idxO a.toNat b.toNat (d :: l) with
        | none => simp
        | some i =>
          have : ((i : Int) == -1) = false := by simp
          simp [this]

theorem idxO_mem (a b : Nat) : ∀ l : List UInt8, idxO a b l ≠ none → (∃ c ∈ l, c.toNat = a) ∧ (∃ c ∈ l, c.toNat = b) := by
  intro l
  induction l with
  | nil => intro h; exact absurd rfl h
  | cons c l ih =>
    cases l with
    | nil => intro h; exact absurd rfl h
    | cons d l =>
      intro h
      rw [idxO] at h
      by_cases hc : c.toNat = a ∧ d.toNat = b
      · exact ⟨⟨c, by simp, hc.1⟩, ⟨d, by simp, hc.2⟩⟩
      · rw [if_neg hc] at h
        have h2 : idxO a b (d :: l) ≠ none := fun e => h (by rw [e]; rfl)
        obtain ⟨⟨x, hx, ex⟩, ⟨y, hy, ey⟩⟩ := ih h2
        exact ⟨⟨x, by simp at hx ⊢; exact .inr hx, ex⟩, ⟨y, by simp at hy ⊢; exact .inr hy, ey⟩⟩

def longs : List UInt8 := [33, 33, 32, 63, 63, 32, 45, 62, 32, 58, 58, 32, 43, 43, 32, 45, 45, 32, 60, 60, 32, 62, 62, 32, 60, 61, 32, 62, 61, 32, 61, 61, 32, 33, 61, 32, 38, 38, 32, 124, 124, 32, 46, 46]

def longsAt (o : Option Nat) : Bool := match o with | none => false | some i => i % 3 == 0

theorem longs_in : ∀ a ∈ [33, 63, 45, 62, 58, 43, 60, 61, 38, 124, 46, 32], ∀ b ∈ [33, 63, 45, 62, 58, 43, 60, 61, 38, 124, 46, 32], longsAt (idxO a b longs) = long2 a b := by decide +kernel

theorem longs_mem (a : Nat) (h : ∃ c ∈ longs, c.toNat = a) : a ∈ [33, 63, 45, 62, 58, 43, 60, 61, 38, 124, 46, 32] := by
  obtain ⟨c, hc, rfl⟩ := h
  have : ∀ c ∈ longs, c.toNat ∈ [33, 63, 45, 62, 58, 43, 60, 61, 38, 124, 46, 32] := by decide +kernel
  exact this c hc

theorem long2_mem (a b : Nat) (h : long2 a b = true) : a ∈ [33, 63, 45, 62, 58, 43, 60, 61, 38, 124, 46, 32] ∧ b ∈ [33, 63, 45, 62, 58, 43, 60, 61, 38, 124, 46, 32] := by
  simp [long2] at h
  simp
  omega

theorem longs_is (a b : Nat) : longsAt (idxO a b longs) = long2 a b := by
  by_cases ha : a ∈ [33, 63, 45, 62, 58, 43, 60, 61, 38, 124, 46, 32]
  · by_cases hb : b ∈ [33, 63, 45, 62, 58, 43, 60, 61, 38, 124, 46, 32]
    · exact longs_in a ha b hb
    · have h1 : idxO a b longs = none := Classical.not_not.1 fun h => hb (longs_mem b (idxO_mem a b longs h).2)
      rw [h1]
      cases hl : long2 a b with
      | false => rfl
      | true => exact absurd (long2_mem a b hl).2 hb
  · have h1 : idxO a b longs = none := Classical.not_not.1 fun h => ha (longs_mem a (idxO_mem a b longs h).1)
    rw [h1]
    cases hl : long2 a b with
    | false => rfl
    | true => exact absurd (long2_mem a b hl).1 ha

end Go.Proofs.Ytojneaffoekpnaa.lx
