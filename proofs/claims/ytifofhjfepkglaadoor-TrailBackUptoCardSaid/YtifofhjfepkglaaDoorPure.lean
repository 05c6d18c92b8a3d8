/- What the text of an end is, and what is read of a text: in plain words, over bytes. No program is spoken of here. -/
import Derived.Lib.ItoaMem
import Derived.Lib.ItoaLen
import Derived.Lib.ParseIntB
import Derived.Lib.Split
import Derived.Lib.SplitLaws
import Derived.Lib.IndexBytes
namespace Go.Proofs.YtifofhjfepkglaaDoor
open Go
set_option linter.unusedVariables false
set_option linter.unusedSimpArgs false

/-! ### Numbers -/
def inI (n : Int) : Prop := -9223372036854775808 ≤ n ∧ n ≤ 9223372036854775807
/-- The number whose decimal a text is. -/
def num (p : List UInt8) : Option Int :=
  match Lib.parseIntB 64 p with
  | .ok n => if Lib.itoa n = p then some n else none
  | _ => none

theorem byte_digit {d : Nat} (h : d < 10) : (UInt8.ofNat (48 + d)).toNat = 48 + d := by
  simp
  omega
theorem puM_append (M : Nat) : ∀ (xs ys : List UInt8) (acc : Nat), Lib.parseUintM M acc (xs ++ ys) = (match Lib.parseUintM M acc xs with | .ok a => Lib.parseUintM M a ys | .range => .range | .syntax => .syntax)
  | [], ys, acc => by simp [Lib.parseUintM]
  | c :: r, ys, acc => by
    simp only [List.cons_append, Lib.parseUintM]
    split
    · split
      · rfl
      · split
        · rfl
        · exact puM_append M r ys _
    · rfl
theorem puM_dec (u : Nat) (h : u ≤ 18446744073709551615) : Lib.parseUintM 18446744073709551615 0 (Lib.decDigits u) = .ok u := by
  induction u using Nat.strongRecOn with
  | _ u ih =>
    by_cases h10 : u < 10
    · rw [Lib.decDigits, dif_pos h10]
      simp only [Lib.parseUintM, byte_digit h10]
      rw [if_pos (by omega), if_neg (by omega), if_neg (by omega)]
      congr 1
      omega
    · rw [Lib.decDigits, dif_neg h10, puM_append, ih (u / 10) (by omega) (by omega)]
      simp only [Lib.parseUintM, byte_digit (show u % 10 < 10 by omega)]
      rw [if_pos (by omega), if_neg (by omega), if_neg (by omega)]
      congr 1
      omega
theorem dec_ne (u : Nat) : Lib.decDigits u ≠ [] := by
  rw [Lib.decDigits]
  split
  · simp
  · simp
theorem dec_all (u : Nat) : ∀ c ∈ Lib.decDigits u, 48 ≤ c.toNat ∧ c.toNat ≤ 57 := by
  induction u using Nat.strongRecOn with
  | _ u ih =>
    intro c hc
    rw [Lib.decDigits] at hc
    split at hc
    · simp only [List.mem_singleton] at hc
      subst hc
      rw [byte_digit (by assumption)]
      omega
    · simp only [List.mem_append, List.mem_singleton] at hc
      rcases hc with hc | rfl
      · exact ih (u / 10) (by omega) c hc
      · rw [byte_digit (by omega)]
        omega
theorem parse_itoa (n : Int) (h : inI n) : Lib.parseIntB 64 (Lib.itoa n) = .ok n := by
  obtain ⟨h0, h1⟩ := h
  unfold Lib.itoa
  split
  · rename_i hn
    unfold Lib.parseIntB
    simp only [show (45 : UInt8).toNat = 45 from rfl, or_true, if_true]
    have hp : Lib.parseUintB 64 (Lib.decDigits n.natAbs) = .ok n.natAbs := by
      unfold Lib.parseUintB
      rw [if_neg (dec_ne _)]
      exact puM_dec _ (by omega)
    rw [hp]
    simp only
    rw [if_neg (by simp), if_neg (by simp; omega)]
    simp
    omega
  · rename_i hn
    have hd := dec_all n.toNat
    have hp : Lib.parseUintB 64 (Lib.decDigits n.toNat) = .ok n.toNat := by
      unfold Lib.parseUintB
      rw [if_neg (dec_ne _)]
      exact puM_dec _ (by omega)
    cases hl : Lib.decDigits n.toNat with
    | nil => exact absurd hl (dec_ne _)
    | cons c r =>
      have hc := hd c (by rw [hl]; simp)
      unfold Lib.parseIntB
      simp only
      rw [if_neg (by omega), ← hl, hp]
      simp only
      rw [if_neg (by omega), if_neg (by omega), if_neg (by omega)]
      congr 1
      omega
theorem parse_in {p : List UInt8} {n : Int} (h : Lib.parseIntB 64 p = .ok n) : inI n := by
  unfold Lib.parseIntB at h
  cases p with
  | nil => simp at h
  | cons c r =>
    simp only at h
    split at h
    · cases h
    · cases h
    · rename_i u hu
      split at h
      · cases h
      · split at h
        · cases h
        · rename_i g1 g2
          injection h with h
          subst h
          unfold inI
          simp at g1 g2
          split
          · rename_i hneg
            have := g2 hneg
            omega
          · rename_i hneg
            have := g1 hneg
            omega
theorem num_some {p : List UInt8} {n : Int} : num p = some n ↔ inI n ∧ Lib.itoa n = p := by
  constructor
  · intro h
    unfold num at h
    split at h
    · rename_i m hm
      split at h
      · rename_i he
        injection h with h
        subst h
        exact ⟨parse_in hm, he⟩
      · cases h
    · cases h
  · rintro ⟨h1, rfl⟩
    unfold num
    rw [parse_itoa n h1]
    simp
theorem num_none {p : List UInt8} (h : num p = none) (n : Int) (hn : inI n) : Lib.itoa n ≠ p := fun e => by
  have := num_some.2 ⟨hn, e⟩
  rw [h] at this
  cases this

/-! ### Pieces -/
def parts (c : UInt8) : List UInt8 → List (List UInt8)
  | [] => [[]]
  | x :: r => if x = c then [] :: parts c r else (match parts c r with | p :: ps => (x :: p) :: ps | [] => [[x]])
theorem parts_ne (c : UInt8) : ∀ s, parts c s ≠ []
  | [] => by simp [parts]
  | x :: r => by
    unfold parts
    split
    · simp
    · split <;> simp
theorem parts_cons (c : UInt8) {x : UInt8} {r : List UInt8} (h : x ≠ c) : ∃ p ps, parts c r = p :: ps ∧ parts c (x :: r) = (x :: p) :: ps := by
  cases hp : parts c r with
  | nil => exact absurd hp (parts_ne c r)
  | cons p ps => exact ⟨p, ps, rfl, by simp [parts, h, hp]⟩
theorem parts_hit (c : UInt8) : ∀ (a b : List UInt8), (∀ x ∈ a, x ≠ c) → parts c (a ++ c :: b) = a :: parts c b
  | [], b, _ => by simp [parts]
  | x :: a, b, h => by
    obtain ⟨p, ps, h1, h2⟩ := parts_cons c (r := a ++ c :: b) (h x (by simp))
    have ih := parts_hit c a b fun y hy => h y (by simp [hy])
    rw [ih] at h1
    injection h1 with h1 h3
    rw [List.cons_append, h2, ← h1, ← h3]
theorem parts_miss (c : UInt8) : ∀ a : List UInt8, (∀ x ∈ a, x ≠ c) → parts c a = [a]
  | [], _ => rfl
  | x :: a, h => by
    obtain ⟨p, ps, h1, h2⟩ := parts_cons c (r := a) (h x (by simp))
    have ih := parts_miss c a fun y hy => h y (by simp [hy])
    rw [ih] at h1
    injection h1 with h1 h3
    rw [h2, ← h1, ← h3]
/-- A text with the byte, or without. -/
theorem has_or (c : UInt8) : ∀ s : List UInt8, (∀ x ∈ s, x ≠ c) ∨ ∃ a b, s = a ++ c :: b ∧ ∀ x ∈ a, x ≠ c
  | [] => .inl (by simp)
  | x :: r => by
    by_cases h : x = c
    · exact .inr ⟨[], r, by simp [h], by simp⟩
    · rcases has_or c r with h1 | ⟨a, b, rfl, h1⟩
      · left
        intro y hy
        simp only [List.mem_cons] at hy
        rcases hy with rfl | hy
        · exact h
        · exact h1 y hy
      · right
        refine ⟨x :: a, b, rfl, fun y hy => ?_⟩
        simp only [List.mem_cons] at hy
        rcases hy with rfl | hy
        · exact h
        · exact h1 y hy
theorem ib_miss (c : UInt8) : ∀ s : List UInt8, (∀ x ∈ s, x ≠ c) → Lib.indexByte s c = -1
  | [], _ => rfl
  | x :: r, h => by
    have h1 := h x (by simp)
    have ih := ib_miss c r fun y hy => h y (by simp [hy])
    simp [Lib.indexByte, h1, ih]
theorem ib_hit (c : UInt8) : ∀ a b : List UInt8, (∀ x ∈ a, x ≠ c) → Lib.indexByte (a ++ c :: b) c = a.length
  | [], b, _ => by simp [Lib.indexByte]
  | x :: a, b, h => by
    have h1 := h x (by simp)
    have ih := ib_hit c a b fun y hy => h y (by simp [hy])
    simp [Lib.indexByte, h1, ih]
theorem cut_miss {c : UInt8} {s : List UInt8} (h : ∀ x ∈ s, x ≠ c) : Lib.cut s [c] = (s, [], false) := by
  unfold Lib.cut
  rw [Lib.index_one, ib_miss c s h]
  rfl
theorem cut_hit {c : UInt8} {a b : List UInt8} (h : ∀ x ∈ a, x ≠ c) : Lib.cut (a ++ c :: b) [c] = (a, b, true) := by
  unfold Lib.cut
  rw [Lib.index_one, ib_hit c a b h, if_pos (by omega)]
  simp
theorem splitK_parts (c : UInt8) : ∀ (k : Nat) (f : Nat) (s : List UInt8), s.length ≤ f → Lib.countFrom [c] (f + 1) s = k → Lib.splitK [c] 0 k s = parts c s
  | k, f, s, hf, hk => by
    rcases has_or c s with h | ⟨a, b, rfl, h⟩
    · unfold Lib.countFrom at hk
      rw [Lib.index_one, ib_miss c s h] at hk
      simp at hk
      subst hk
      rw [parts_miss c s h]
      rfl
    · unfold Lib.countFrom at hk
      rw [Lib.index_one, ib_hit c a b h] at hk
      rw [if_neg (by simp)] at hk
      cases k with
      | zero => omega
      | succ k =>
        unfold Lib.splitK
        rw [Lib.index_one, ib_hit c a b h, if_neg (by simp), parts_hit c a b h]
        have hd : (a ++ c :: b).drop ((a.length : Int).toNat + [c].length) = b := by simp
        rw [hd] at hk ⊢
        have ht : (a ++ c :: b).take ((a.length : Int).toNat + 0) = a := by simp
        rw [ht]
        congr 1
        cases f with
        | zero => simp at hf
        | succ f => exact splitK_parts c k f b (by simp at hf; omega) (by omega)
theorem split_parts (c : UInt8) (s : List UInt8) : Lib.split s [c] = parts c s := splitK_parts c _ s.length s (Nat.le_refl _) rfl
end Go.Proofs.YtifofhjfepkglaaDoor
