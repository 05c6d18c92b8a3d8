/- Blanks, in plain words: one blank at a place; and what lies behind all blanks from a place on. -/
import Derived.Test.YtmkfcoeefopmiaaText
namespace Go.Proofs.Ytmkfcoeefopmiaa

/-- The blank at place k: how many bytes, how many lines; none: a comment without an end. -/
def blankAt (u : ByteArray) (k : Nat) : Option (Nat × Nat) :=
  if byt u k = 10 then some (1, 1) else if byt u k = 32 ∨ byt u k = 9 ∨ byt u k = 12 ∨ byt u k = 13 then some (1, 0)
  else if byt u k = 92 ∧ k + 1 < u.size ∧ byt u (k + 1) = 10 then some (2, 0)
  else if byt u k = 47 ∧ k + 1 < u.size ∧ byt u (k + 1) = 42 then (find2 42 47 (u.data.toList.drop (k + 2))).map fun j => (j + 4, 0)
  else if byt u k = 47 ∧ k + 1 < u.size ∧ byt u (k + 1) = 47 then some (run (fun c => c != 10) (u.data.toList.drop k), 0) else some (0, 0)

/-- From place k and line l on, all blanks passed: the place, the line, and whether each comment is closed. -/
inductive Skip (u : ByteArray) : Nat → Nat → Nat → Nat → Bool → Prop
  | fin (k l : Nat) : u.size ≤ k → Skip u k l k l true
  | stop (k l : Nat) : k < u.size → blankAt u k = some (0, 0) → Skip u k l k l true
  | bad (k l : Nat) : k < u.size → blankAt u k = none → Skip u k l k l false
  | go (k l n j k' l' : Nat) (b : Bool) : k < u.size → blankAt u k = some (n, j) → 0 < n → Skip u (k + n) (l + j) k' l' b → Skip u k l k' l' b

/-- What lies behind all blanks is one. -/
theorem Skip.one {u : ByteArray} {k l k1 l1 k2 l2 : Nat} {b1 b2 : Bool} (h : Skip u k l k1 l1 b1) (h' : Skip u k l k2 l2 b2) : k1 = k2 ∧ l1 = l2 ∧ b1 = b2 := by
  induction h with
  | fin k l hk =>
    cases h' with
    | fin _ _ _ => exact ⟨rfl, rfl, rfl⟩
    | stop _ _ h _ => omega
    | bad _ _ h _ => omega
    | go _ _ _ _ _ _ _ h _ _ _ => omega
  | stop k l hk hb =>
    cases h' with
    | fin _ _ _ => omega
    | stop _ _ _ _ => exact ⟨rfl, rfl, rfl⟩
    | bad _ _ _ hb' => rw [hb] at hb'; cases hb'
    | go _ _ _ _ _ _ _ _ hb' hn _ => rw [hb] at hb'; cases hb'; omega
  | bad k l hk hb =>
    cases h' with
    | fin _ _ _ => omega
    | stop _ _ _ hb' => rw [hb] at hb'; cases hb'
    | bad _ _ _ _ => exact ⟨rfl, rfl, rfl⟩
    | go _ _ _ _ _ _ _ _ hb' hn _ => rw [hb] at hb'; cases hb'
  | go k l n j k' l' b hk hb hn hs ih =>
    cases h' with
    | fin _ _ _ => omega
    | stop _ _ _ hb' => rw [hb] at hb'; cases hb'; omega
    | bad _ _ _ hb' => rw [hb] at hb'; cases hb'
    | go _ _ n' j' _ _ _ _ hb' _ hs' => rw [hb] at hb'; cases hb'; exact ih hs'

theorem find2_le (a b : Nat) : ∀ (l : List UInt8) (j : Nat), find2 a b l = some j → j + 2 ≤ l.length := by
  intro l
  induction l with
  | nil => intro j h; cases h
  | cons c l ih =>
    intro j h
    rw [find2] at h
    by_cases hh : heads a b (c :: l) = true
    · rw [if_pos hh] at h
      cases h
      cases l with
      | nil => simp [heads] at hh
      | cons d l => simp
    · rw [if_neg hh] at h
      cases hf : find2 a b l with
      | none => rw [hf] at h; cases h
      | some i =>
        rw [hf] at h
        cases h
        have := ih i hf
        simp
        omega

/-- A blank ends within its text. -/
theorem blankAt_le (u : ByteArray) (k n j : Nat) (hk : k < u.size) (h : blankAt u k = some (n, j)) : k + n ≤ u.size := by
  unfold blankAt at h
  split at h
  · cases h; omega
  split at h
  · cases h; omega
  split at h
  · cases h; omega
  split at h
  · rename_i hh
    cases hf : find2 42 47 (u.data.toList.drop (k + 2)) with
    | none => rw [hf] at h; cases h
    | some i =>
      rw [hf] at h
      cases h
      have := find2_le 42 47 _ i hf
      simp at this
      omega
  split at h
  · cases h
    have := run_le (fun c => c != 10) (u.data.toList.drop k)
    simp at this
    omega
  · cases h; omega

/-- There is always an end of blanks. -/
theorem Skip.all (u : ByteArray) : ∀ (m k l : Nat), u.size - k ≤ m → ∃ k' l' b, Skip u k l k' l' b := by
  intro m
  induction m with
  | zero => intro k l h; exact ⟨k, l, true, .fin k l (by omega)⟩
  | succ m ih =>
    intro k l h
    by_cases hk : u.size ≤ k
    · exact ⟨k, l, true, .fin k l hk⟩
    · cases hb : blankAt u k with
      | none => exact ⟨k, l, false, .bad k l (by omega) hb⟩
      | some p =>
        obtain ⟨n, j⟩ := p
        by_cases hn : n = 0
        · subst hn
          have hj : j = 0 := by
            unfold blankAt at hb
            split at hb
            · cases hb
            split at hb
            · cases hb
            split at hb
            · cases hb
            split at hb
            · cases hf : find2 42 47 (u.data.toList.drop (k + 2)) with
              | none => rw [hf] at hb; cases hb
              | some i => rw [hf] at hb; cases hb
            split at hb
            · simp only [Option.some.injEq, Prod.mk.injEq] at hb
              exact hb.2.symm
            · cases hb; rfl
          subst hj
          exact ⟨k, l, true, .stop k l (by omega) hb⟩
        · obtain ⟨k', l', b, hs⟩ := ih (k + n) (l + j) (by omega)
          exact ⟨k', l', b, .go k l n j k' l' b (by omega) hb (by omega) hs⟩
end Go.Proofs.Ytmkfcoeefopmiaa
