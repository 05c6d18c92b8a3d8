/- For the contract of skip: laws of scopes, of Skip, of the two calls. -/
import Derived.Test.YtojneaffoekpnaaLTwo
import Derived.Test.YtojneaffoekpnaaLBlankD
import Derived.Test.YtojneaffoekpnaaLOne
namespace Go.Proofs.Ytojneaffoekpnaa.lx
set_option linter.unusedVariables false
set_option linter.unusedSimpArgs false
open Go.ChangeShapes Go.WideShapes Go.ChangeAt Go.RowKit

section
variable {P : Program} {a : Act} {w : World} {Q : Exit → Act → World → Prop}
theorem wp_scope_both2 {c r0 r1 : Code} (M : Nat) (l0 l1 : Nat) (J0 J1 : Nat → Act → World → Prop) (hf0 : findLabel c l0 = some r0) (hf1 : findLabel c l1 = some r1)
    (first : c.wp P (jump2 l0 l1 (fun a w => ∃ m, m < M ∧ J0 m a w) (fun a w => ∃ m, m < M ∧ J1 m a w) Q) a w)
    (pass0 : ∀ m a w, J0 m a w → r0.wp P (jump2 l0 l1 (fun a' w' => ∃ m', m' < m ∧ J0 m' a' w') (fun a' w' => ∃ m', m' < m ∧ J1 m' a' w') Q) a w)
    (pass1 : ∀ m a w, J1 m a w → r1.wp P (jump2 l0 l1 (fun a' w' => ∃ m', m' < m ∧ J0 m' a' w') (fun a' w' => ∃ m', m' < m ∧ J1 m' a' w') Q) a w) : (Code.scope c).wp P Q a w := by
  refine wp_scope_ghost2 l0 l1 J0 J1 hf0 hf1 ?_ pass0 pass1
  refine Code.wp_mono ?_ first
  intro e a w hq
  cases e with
  | goto l' =>
    rcases hq with ⟨h, m', _, hj⟩ | ⟨h, m', _, hj⟩
    · exact .inl ⟨h, m', hj⟩
    · exact .inr ⟨h, m', hj⟩
  | normal => exact hq
  | exit _ => exact hq
  | ret => exact hq
  | panic _ => exact hq
  | outgrown => exact hq
theorem wp_scope_both {c rest : Code} (M : Nat) (l : Nat) (J : Nat → Act → World → Prop) (hf : findLabel c l = some rest)
    (first : c.wp P (Exit.jump l (fun a w => ∃ m, m < M ∧ J m a w) Q) a w)
    (pass : ∀ m a w, J m a w → rest.wp P (Exit.jump l (fun a' w' => ∃ m', m' < m ∧ J m' a' w') Q) a w) : (Code.scope c).wp P Q a w := by
  refine wp_scope_ghost l J hf ?_ pass
  refine Code.wp_mono ?_ first
  intro e a w hq
  cases e with
  | goto l' => exact ⟨hq.1, hq.2.elim fun m' h => ⟨m', h.2⟩⟩
  | normal => exact hq
  | exit _ => exact hq
  | ret => exact hq
  | panic _ => exact hq
  | outgrown => exact hq
end

/-- Skip's steps, turned about: what a Skip from place k on must be. -/
theorem Skip.at_end {u : ByteArray} {k l k' l' : Nat} {b : Bool} (h : Skip u k l k' l' b) (hk : u.size ≤ k) : k = k' ∧ l = l' ∧ b = true := by
  cases h with
  | fin _ _ _ => exact ⟨rfl, rfl, rfl⟩
  | stop _ _ h _ => omega
  | bad _ _ h _ => omega
  | go _ _ _ _ _ _ _ h _ _ _ => omega
theorem Skip.at_go {u : ByteArray} {k l k' l' n j : Nat} {b : Bool} (h : Skip u k l k' l' b) (hk : k < u.size) (hb : blankAt u k = some (n, j)) (hn : 0 < n) : Skip u (k + n) (l + j) k' l' b := by
  cases h with
  | fin _ _ _ => omega
  | stop _ _ _ hb' => rw [hb] at hb'; cases hb'; omega
  | bad _ _ _ hb' => rw [hb] at hb'; cases hb'
  | go _ _ n' j' _ _ _ _ hb' _ hs => rw [hb] at hb'; cases hb'; exact hs
theorem Skip.at_stop {u : ByteArray} {k l k' l' : Nat} {b : Bool} (h : Skip u k l k' l' b) (hk : k < u.size) (hb : blankAt u k = some (0, 0)) : k = k' ∧ l = l' ∧ b = true := by
  cases h with
  | fin _ _ _ => omega
  | stop _ _ _ hb' => exact ⟨rfl, rfl, rfl⟩
  | bad _ _ _ hb' => rw [hb] at hb'; cases hb'
  | go _ _ n' j' _ _ _ _ hb' hn _ => rw [hb] at hb'; cases hb'; omega
theorem Skip.at_bad {u : ByteArray} {k l k' l' : Nat} {b : Bool} (h : Skip u k l k' l' b) (hk : k < u.size) (hb : blankAt u k = none) : k = k' ∧ l = l' ∧ b = false := by
  cases h with
  | fin _ _ _ => omega
  | stop _ _ _ hb' => rw [hb] at hb'; cases hb'
  | bad _ _ _ hb' => exact ⟨rfl, rfl, rfl⟩
  | go _ _ n' j' _ _ _ _ hb' hn _ => rw [hb] at hb'; cases hb'

theorem drop_str (u : ByteArray) (k : Nat) : (u.extract k u.size).data.toList = u.data.toList.drop k := by
  rw [ByteArray.data_extract, Array.toList_extract, List.extract_eq_take_drop]
  rw [List.take_of_length_le]
  simp
theorem pre_two (u : ByteArray) (k : Nat) (a b : UInt8) : Lib.hasPrefix (u.data.toList.drop k) [a, b] = two u k a.toNat b.toNat := by
  rw [← heads_two]
  unfold Lib.hasPrefix
  generalize u.data.toList.drop k = l
  match l with
  | [] => rfl
  | [c] => simp [List.isPrefixOf, heads]
  | c :: d :: l =>
    simp only [List.isPrefixOf, heads, Bool.and_true]
    rw [Bool.eq_iff_iff]
    simp only [Bool.and_eq_true, beq_iff_eq, ← UInt8.toNat_inj]
    constructor
    · rintro ⟨h1, h2⟩; exact ⟨h1.symm, h2.symm⟩
    · rintro ⟨h1, h2⟩; exact ⟨h1.symm, h2.symm⟩
theorem find_idx (a b : Nat) : ∀ l : List UInt8, find2 a b l = idxO a b l := by
  intro l
  induction l with
  | nil => rfl
  | cons c l ih =>
    cases l with
    | nil =>
      have h : heads a b [c] = false := rfl
      rw [find2, h]
      rfl
    | cons d l =>
      rw [find2, idxO, ih]
      by_cases h : c.toNat = a ∧ d.toNat = b
      · have hh : heads a b (c :: d :: l) = true := by simp [heads, h]
        rw [hh, if_pos h]
        rfl
      · have hh : heads a b (c :: d :: l) = false := by rw [Bool.eq_false_iff]; intro e; simp [heads] at e; exact h e
        rw [hh, if_neg h]
        rfl
theorem run_cons (p : Nat → Bool) (u : ByteArray) (k : Nat) (hk : k < u.size) : run p (u.data.toList.drop k) = if p (byt u k) then run p (u.data.toList.drop (k + 1)) + 1 else 0 := by
  obtain ⟨c, e, hd⟩ := drop_at u k hk
  rw [hd, ← e]
  unfold run
  rw [List.takeWhile_cons]
  split <;> simp
theorem run_end (p : Nat → Bool) (u : ByteArray) (k : Nat) (hk : u.size ≤ k) : run p (u.data.toList.drop k) = 0 := by
  rw [List.drop_eq_nil_of_le (by simpa using hk)]; rfl

end Go.Proofs.Ytojneaffoekpnaa.lx
