/- The lexer in plain words: blanks, and the token with which a text begins. No program is spoken of here. -/
import Derived.RowKit
namespace Go.Proofs.Ytmkfcoeefopmiaa

def isL (c : Nat) : Bool := c == 95 || (97 ≤ c && c ≤ 122) || (65 ≤ c && c ≤ 90)
def isD (c : Nat) : Bool := 48 ≤ c && c ≤ 57

/-- How many bytes a text's first run has. -/
def run (p : Nat → Bool) (u : List UInt8) : Nat := (u.takeWhile fun c => p c.toNat).length

theorem run_le (p : Nat → Bool) (u : List UInt8) : run p u ≤ u.length := by
  unfold run; exact (List.takeWhile_sublist _).length_le

theorem run_eq (p : Nat → Bool) (u : List UInt8) (k : Nat) (hk : k ≤ u.length) (h : ∀ i (hi : i < u.length), i < k → p u[i].toNat = true) (he : ∀ hk' : k < u.length, p u[k].toNat = false) : run p u = k := by
  induction u generalizing k with
  | nil => simp at hk; subst hk; rfl
  | cons c u ih =>
    cases k with
    | zero =>
      have := he (by simp)
      simp at this
      simp [run, List.takeWhile, this]
    | succ k =>
      have h0 := h 0 (by simp) (by omega)
      simp at h0
      have := ih k (by simpa using hk) (fun i hi hik => by have := h (i + 1) (by simp; omega) (by omega); simpa using this) (fun hk' => by have := he (by simp; omega); simpa using this)
      simp only [run, List.takeWhile, h0, List.length_cons] at *
      omega

/-- The value of a row of digits, and what is left of it by a bound. -/
def val : List UInt8 → Nat → Nat
  | [], v => v
  | c :: u, v => val u (10 * v + (c.toNat - 48))

def cap (M : Nat) : List UInt8 → Nat → Nat
  | [], v => v
  | c :: u, v => cap M u (min (10 * v + (c.toNat - 48)) M)

theorem cap_snoc (M : Nat) (u : List UInt8) (c : UInt8) : ∀ v, cap M (u ++ [c]) v = min (10 * cap M u v + (c.toNat - 48)) M := by
  induction u with
  | nil => intro v; rfl
  | cons x u ih => intro v; exact ih _

theorem cap_val (M : Nat) (hM : 1 ≤ M) (u : List UInt8) : ∀ v w, v = min w M → cap M u v = min (val u w) M := by
  induction u with
  | nil => intro v w h; exact h
  | cons c u ih =>
    intro v w h
    refine ih _ _ ?_
    rw [h]
    omega

/-- How many bytes a quoted text has behind its first quote, with its last one. -/
def quot : List UInt8 → Option Nat
  | [] => none
  | [c] => if c.toNat = 34 then some 1 else none
  | c :: d :: u => if c.toNat = 34 then some 1 else if c.toNat = 10 then none else if c.toNat = 92 then (if d.toNat = 10 then none else (quot u).map (· + 2)) else (quot (d :: u)).map (· + 1)

theorem quot_step (c : UInt8) (u : List UInt8) : quot (c :: u) = if c.toNat = 34 then some 1 else if c.toNat = 10 then none else if c.toNat = 92 then (match u with | [] => none | d :: u' => if d.toNat = 10 then none else (quot u').map (· + 2)) else (quot u).map (· + 1) := by
  cases u with
  | nil => simp [quot]
  | cons d u => rw [quot]

/-- A number that is written as a byte: its value, and how many bytes it takes. -/
def byteNum : List UInt8 → Option (Nat × Nat)
  | _ :: a :: b :: u =>
    if a.toNat = 39 ∨ a.toNat = 10 then none else
    if a.toNat = 92 then
      (match u with
       | [] => none
       | d :: _ => if d.toNat ≠ 39 then none else
         if b.toNat = 110 then some (10, 4) else if b.toNat = 116 then some (9, 4) else if b.toNat = 48 then some (0, 4) else if b.toNat = 92 then some (92, 4) else if b.toNat = 39 then some (39, 4) else none)
    else if b.toNat = 39 then some (a.toNat, 3) else none
  | _ => none

/-- Marks of two bytes, and of one. -/
def long2 (a b : Nat) : Bool :=
  (a == 33 && b == 33) || (a == 63 && b == 63) || (a == 45 && b == 62) || (a == 58 && b == 58) || (a == 43 && b == 43) || (a == 45 && b == 45) || (a == 60 && b == 60) || (a == 62 && b == 62) ||
  (a == 60 && b == 61) || (a == 62 && b == 61) || (a == 61 && b == 61) || (a == 33 && b == 61) || (a == 38 && b == 38) || (a == 124 && b == 124) || (a == 46 && b == 46)
def short1 (a : Nat) : Bool := [33, 63, 60, 62, 61, 43, 45, 42, 47, 37, 38, 124, 94, 126, 40, 41, 91, 93, 123, 125, 44, 59, 58, 46, 64, 35].contains a

/-- Two bytes stand at the head. -/
def heads (a b : Nat) : List UInt8 → Bool
  | c :: d :: _ => c.toNat == a && d.toNat == b
  | _ => false

/-- Where two bytes stand first. -/
def find2 (a b : Nat) : List UInt8 → Option Nat
  | [] => none
  | c :: u => if heads a b (c :: u) then some 0 else (find2 a b u).map (· + 1)

/-- A blank at the head: how many bytes, how many lines; none: a comment without an end. -/
def blank (u : List UInt8) : Option (Nat × Nat) :=
  match u with
  | [] => some (0, 0)
  | c :: _ =>
    if c.toNat = 10 then some (1, 1) else if c.toNat = 32 ∨ c.toNat = 9 ∨ c.toNat = 12 ∨ c.toNat = 13 then some (1, 0) else
    if heads 92 10 u then some (2, 0) else
    if heads 47 42 u then (find2 42 47 (u.drop 2)).map fun k => (k + 4, 0) else
    if heads 47 47 u then some (run (fun c => c != 10) u, 0) else some (0, 0)

end Go.Proofs.Ytmkfcoeefopmiaa
