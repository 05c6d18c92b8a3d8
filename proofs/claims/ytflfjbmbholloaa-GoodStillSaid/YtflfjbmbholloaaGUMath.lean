/- What a proctype uses: how much is left to be looked at. -/
import Derived.Test.YtflfjbmbholloaaSpec
namespace Go.Proofs.Ytflfjbmbholloaa

/-- How many parts are still handed over, at most. -/
def toGo (m : ModelD) (proc : Nat) (seen : List Int) : Nat := ((m.exprs.zip seen).map fun z => if z.2 = (proc : Int) + 1 then 0 else (partsL z.1).length).sum
def partsN (l : List ExprD) : Nat := (l.map fun x => (partsL x).length).sum

theorem toGo_le (m : ModelD) (proc : Nat) (seen : List Int) : toGo m proc seen ≤ partsN m.exprs := by
  unfold toGo partsN
  generalize m.exprs = l
  induction l generalizing seen with
  | nil => simp
  | cons x r ih =>
    cases seen with
    | nil => simp
    | cons s t =>
      have := ih t
      simp only [List.zip_cons_cons, List.map_cons, List.sum_cons]
      split <;> omega
theorem toGo_set {m : ModelD} {proc q : Nat} {seen : List Int} {x : ExprD} {v : Int} (hx : m.exprs[q]? = some x) (hs : seen[q]? = some v) (hv : v ≠ (proc : Int) + 1) :
    toGo m proc (seen.set q ((proc : Int) + 1)) + (partsL x).length = toGo m proc seen := by
  unfold toGo
  generalize m.exprs = l at hx
  induction l generalizing seen q with
  | nil => simp at hx
  | cons y r ih =>
    cases seen with
    | nil => simp at hs
    | cons s t =>
      cases q with
      | zero =>
        simp only [List.getElem?_cons_zero, Option.some.injEq] at hx hs
        subst hx hs
        simp only [List.set_cons_zero, List.zip_cons_cons, List.map_cons, List.sum_cons, if_pos, if_neg hv]
        omega
      | succ q =>
        simp only [List.getElem?_cons_succ] at hx hs
        have := ih hs hx
        simp only [List.set_cons_succ, List.zip_cons_cons, List.map_cons, List.sum_cons]
        omega

theorem takeAll_count {i : Nat} : ∀ (l : List Int) (s : List Bool × Bool), i ≤ s.1.length → (l.foldl (takePart i) s).2 = true → s.2 = true ∧ (l.foldl (takePart i) s).1.count true = s.1.count true + l.length ∧ (l.foldl (takePart i) s).1.length = s.1.length := by
  intro l
  induction l with
  | nil => intro s _ h; exact ⟨h, by simp, rfl⟩
  | cons q r ih =>
    intro s hi h
    rw [List.foldl_cons] at h ⊢
    have hlen : (takePart i s q).1.length = s.1.length := by unfold takePart; split <;> simp
    obtain ⟨h1, h2, h3⟩ := ih _ (by rw [hlen]; exact hi) h
    rw [h2, h3]
    unfold takePart at h1 ⊢
    split at h1
    · cases h1
    · rename_i hq
      rw [if_neg hq]
      have hg : s.1.getD q.toNat false = false := by
        cases hg : s.1.getD q.toNat false
        · rfl
        · exact absurd (.inr (.inr hg)) hq
      have hl : q.toNat < s.1.length := by
        have h5 : ¬ (q < 0 ∨ (i : Int) ≤ q) := fun h => hq (by rcases h with h | h; exact .inl h; exact .inr (.inl h))
        omega
      have hf : s.1[q.toNat] = false := by
        rw [List.getD_eq_getElem?_getD, List.getElem?_eq_getElem hl] at hg
        exact hg
      refine ⟨h1, ?_, by simp⟩
      rw [List.count_set hl, hf]
      simp
      omega
theorem exprsGo_count {m : ModelD} : ∀ (l : List ExprD) (i : Nat) (t : List Bool), i + l.length ≤ t.length → (exprsGo m l i t).2 = true → partsN l + t.count true ≤ t.length
  | [], _, t, _, _ => by have := List.count_le_length (a := true) (l := t); simp [partsN]; omega
  | x :: r, i, t, hi, h => by
    rw [List.length_cons] at hi
    unfold exprsGo at h
    split at h
    · split at h
      · rename_i h2
        obtain ⟨-, h4, h5⟩ := takeAll_count (partsL x) (t, true) (by simp only; omega) h2
        have := exprsGo_count r (i + 1) _ (by unfold takeAll; rw [h5]; simp only; omega) h
        unfold takeAll at this
        rw [h4, h5] at this
        simp only at this
        have e : partsN (x :: r) = (partsL x).length + partsN r := by unfold partsN; simp
        rw [e]
        omega
      · cases h
    · cases h
/-- What the third part gives, whole. -/
structure EX (m : ModelD) : Prop where
  le : m.exprs.length ≤ 4096
  ok : ∀ (k : Nat) (x : ExprD), m.exprs[k]? = some x → exprB m x = true ∧ ∀ p ∈ partsL x, 0 ≤ p ∧ p < (k : Int)
  sum : partsN m.exprs ≤ 4096
theorem EX.of {m : ModelD} (h : (expressionsL m).2 = true) : EX m := by
  unfold expressionsL at h
  split at h
  · cases h
  · rename_i hh
    have hl : m.exprs.length ≤ 4096 := by
      unfold exprsHead at hh
      rw [decide_eq_true_eq] at hh
      omega
    refine ⟨hl, fun k x hx => ?_, ?_⟩
    · obtain ⟨hk, rfl⟩ := List.getElem?_eq_some_iff.1 hx
      have := exprsGo_ok _ _ _ h k hk
      rw [Nat.zero_add] at this
      exact this
    · have := exprsGo_count _ _ _ (by rw [List.length_replicate]; omega) h
      rw [List.length_replicate] at this
      omega
theorem usesF_nil {m : ModelD} {proc f : Nat} {seen : List Int} : usesF m proc (f + 1) seen [] = (true, seen) := rfl
theorem usesF_seen {m : ModelD} {proc f q : Nat} {seen l : List Int} (h : seen[q]? = some ((proc : Int) + 1)) : usesF m proc (f + 1) seen (l ++ [(q : Int)]) = usesF m proc f seen l := by
  rw [usesF, List.getLast?_concat]
  simp [h]
theorem usesF_no {m : ModelD} {proc f q : Nat} {seen l : List Int} {x : ExprD} (h : seen[q]? ≠ some ((proc : Int) + 1)) (hx : m.exprs[q]? = some x) (hu : useB m proc x = false) : usesF m proc (f + 1) seen (l ++ [(q : Int)]) = (false, seen.set q ((proc : Int) + 1)) := by
  rw [usesF, List.getLast?_concat]
  simp [h, hx, hu]
theorem usesF_yes {m : ModelD} {proc f q : Nat} {seen l : List Int} {x : ExprD} (h : seen[q]? ≠ some ((proc : Int) + 1)) (hx : m.exprs[q]? = some x) (hu : useB m proc x = true) : usesF m proc (f + 1) seen (l ++ [(q : Int)]) = usesF m proc f (seen.set q ((proc : Int) + 1)) (l ++ partsL x) := by
  rw [usesF, List.getLast?_concat]
  simp [h, hx, hu]
end Go.Proofs.Ytflfjbmbholloaa
